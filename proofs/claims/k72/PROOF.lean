import PyProof.Rows.All
import Wide.All
import OpenK.AllK
import Wide.FinOn
import Lean
import PyProof.EqAt
import PyProof.EqKinds
import PyProof.TupleCall
import PySem.Challenge.RW_slanttiles_k72_whole_waits_only_delay
open PySem renaming wpAny_bind->Aa,wpAny_pure->Ac,Program->An,wpAny->Bb,World->Bh,FuncData->Br,wpAny_call_entry->Bw,starEach->Ca,wpAny_newObj_type->Cd,wpAny_holding->Ce,boot_len->Cf,Around->Cm,Expr->Cr,wpAny_callSpecial?_slot->Cw,wpAny_seqItems->Di,mem_of_lookup->Dj,codeAny_builtin->Dq,wpAny_field->Du,wpAny_truthy_bool->Ec,keywordEach->Ed,wpAny_dictEntries->Em,sizeLine_eq->Es,intKind->Et,wpAny_specialOf->Ex,wpAny_isInstance->Ez,plainId_quiet->Fc,swapsWith->Fe,compareOp->Ff,bootBuiltins->Fg,bindArgs->Fh,cellsFrom->Ft,wpAny_forIn_list->Fz,wpAny_mono->Gd,mainGlobals->Ge,wpAny_setState_of->Gr,sysModules->Gs,wpAny_updateSeq->Gu,pyNext->Gv,backToKw->Gx,wpAny_Call_Name_kw->Hc,behindInMarks->Hd,attributeBase->He,wpAny_setField->Hk,ofAClassStatement->Ho,wpAny_attempt->Hw,wpAny_typeNameOfWhole_valiter->Hy,wpAny_typeNameOfWhole_keyiter->Hz,firstArgMember->Ia,assignEach->Ib,wpAny_setField_rec->Im,HeapKind->Iq,wpAny_typeOf->Jb,wpAny_passesOwn->Jc,wpAny_notOrdered_dict->Jd,wpAny_dictEpoch->Je,builtinLookup_eq_fast->Jf,wpAny_rule->Jj,binaryOp->Jk,codeAny->Jn,wpAny_typeNameOf_valiter->Jx,wpAny_typeNameOf_keyiter->Jy,wpAny_comprehension_free->Jz,rawInt->Ka,wpAny_tupleItemsOf->Kb,NameKind->Kd,wpAny_pyIter_slot->Km,wpAny_pyIter_list->Kn,IsTupleKey->Kq,tupleKeyHash->Kt,isSubtype_tuple_tuple->Ku,DictEntry->Ky,wpAny_askSetting->Le,wpAny_letGo->Lq,typeLookup_type->Lr,sliceBounds->Ls,Keyword->Lw,codeAny_mono->Mf,GenState->Mh,wpAny_fieldsOf->Mi,isSubtype_stop->Mj,updateSeq->Mu,wpAny_standAt->Nb,wpAny_of_eq->Nd,hashByValue->Ng,backTo->Np,wpAny_nextOf_list_item->Nu,wpAny_isOneOf_valiter->Od,wpAny_execs_nil->Oe,storedH->Of,pushCells->Og,letOwnedTupleGo->Oh,typeLookup->On,entryOfKey->Oo,call_meets->Oq,wpAny_tryCatch->Pe,newFunctionEnv->Pf,standAt->Ph,wpAny_handled->Px,tupleKind_room_in1->Py,tupleKind->Pz,seqItems? ->Qa,getMethod->Qb,ZipApart->Qc,Result->Qe,wpAny_assign_Name->Qw,getItem->Qy,foldedSetIterable->Qz,closureFor->Ra,setAddHashed->Rn,wpAny_eqBool_int->Ry,noFill_tuple_add->Rz,intItems->So,wpAny_throw->Sz,wpAny_richCompare_same_room->Tc,valueAt->Td,putSet_of->Ti,intItems_at->Tj,callerA->Tn,Within->Tq,wpAny_newTuple->Ud,isSubtype_type->Ue,carriedByValue->Ug,callType_codes->Uh,CmpOp->Uu,wpAny_call->Uv,reduceHash->Ux,pyIter->Uy,newExc->Uz,isInstance->Va,intKind_is->Vb,IsPart->Vi,wpAny_onRaise->Vl,wpAny_newList->Vm,swapsWithSole->Vn,swappedStores->Vo,seq_tuple_add->Vq,nums_intItems->Vr,numAt_eq->Vs,atKey->Vu,call->Vv,BindsTo->We,wpAny_isTrue_Compare1->Wr,wpAny_isOneOf_keyiter->Ws,seqIndex_neg->Wt,pickOrder->Wu,lastMarks->Wv,exec_Assign_Name_used->Ww,eqIsQuiet->Wx,concat_meets->Wy,PassesOwn->Wz,wpAny_updateSeq_pair->Xk,codeAny_call_builtin->Xl,wpAny_setEntries_of->Xw,seqIndex_of->Xx,newList->Xz,IsZip->Yg,wpAny_pyIter_tuple->Yk,setField->Yl,raiseNew->Ym,newTuple->Yn,isTrue->Yo,getattributeRaised->Yp,entryFor->Yq,compPost->Yr,compEnvC->Ys,callWith->Yt,argsOk->Yw,Shared->Yz,Paired->Zb,wpAny_storeSet_of->Zt,wpAny_pyIter_enum->Zu,wpAny_Name->Zv,typeIs_int->Zw,setsByText->Zx,searchCouldBeSeen->Zy,eqIsQuiet_byValue->Zz,builtinsNs->Aaa,bindL->Aac,bindC->Aad,wpAny_pyIter_zip->Aau,wpAny_execs_cons->Aav,kt_code_dict_new->Aaw,entryFor_of_tree->Aax,setItem->Abm,pushCells_keeps->Abn,codeAny_of_tree->Abo
open List renaming length_map->Ab,mem_cons_of_mem->Af,getElem?_eq_getElem->Ag,mem_cons_self->Ah,mem_of_getElem? ->Ai,mem_map->Aj,size_toArray->Al,length_append->Am,length_cons->Ao,mem_singleton->Ap,mem_cons->Ax,getElem?_eq_some_iff->Ay,map_map->Ba,mem_append->Bd,mem_append_right->Be,map_eq_nil_iff->Bf,getElem?_map->Bg,replicate->Bi,map_cons->Bj,append_nil->Bk,nil_append->Bm,mem_append_left->Bo,range->Bq,lookup_cons->Bu,mem_range->By,getD_eq_getElem?_getD->Cc,length_set->Cg,map_append->Co,not_mem_nil->Cq,mem_iff_getElem? ->Cu,append_assoc->Cz,filterMap_eq_map'->Dk,length_range->Dm,length_eq_zero_iff->Dp,mem_flatten->Ds,flatten_cons->Dt,length_singleton->Dw,nodup_cons->Dx,getElem?_append_left->Dz,length_replicate->Ef,length_pos_iff->Eg,nodup_append->Ei,getElem?_append_right->Ek,getElem?_set_ne->El,sum_cons->Fj,length->Fm,mem_flatMap->Fq,length_drop->Fs,take_of_length_le->Fx,take_append_drop->Gb,getElem?_eq_none->Gc,length_take->Gg,getElem?_replicate->Gj,replicate_succ->Gp,mem_filter->Gq,nodup_range->Gw,map_nil->Gz,drop_eq_getElem_cons->Ha,filterMap_cons_some->Hi,filterMap_cons_none->Hj,lookup->Hm,getElem_of_mem->Hn,nodup_nil->Ht,getElem?_set_self->Hv,sublist_flatten_of_mem->Ic,forIn_cons->Ie,find?_cons->Ig,pairwise_map->Io,flatMap_cons->Ip,mem_of_mem_take->Iz,pairwise_iff_getElem->Jg,filter_cons_of_pos->Js,filter_cons_of_neg->Jt,any_cons->Ju,forIn_nil->Ke,getElem_mem->Kj,getElem_inj->Kk,mem_of_mem_drop->Ko,getElem?_append->Kp,dropLast_concat_getLast->Kr,map_id->Kz,map_const'->La,map_congr_left->Lb,foldl_cons->Lc,filterMap_cons->Ld,mem_filterMap->Lk,getElem?_set->Lz,getD->Ma,ext_getElem? ->Mb,pairwise_singleton->Mg,take_length->Ml,perm_middle->Mm,countP_cons->Mn,length_nil->My,length_filter_le->Mz,map_eq_cons_iff->Nr,take_succ->Nx,flatten_append->Ny,flatMap_append->Nz,zip_cons_cons->Ou,map_replicate->Ov,flatten_replicate_singleton->Oz,take_sublist->Pg,take_append_of_le_length->Pt,drop_length->Pu,of_mem_zip->Qr,take_zero->Rr,mem_of_find?_eq_some->Rt,getElem?_zip_eq_some->Ru,getElem?_eq_none_iff->Rv,drop_zero->Rw,length_erase_of_mem->Si,eq_of_mem_replicate->Sj,map_take->Su,map_drop->Sw,pairwise_lt_range->Ts,length_pos_of_mem->Tt,getElem_cons_drop->Tu,filter_eq_nil_iff->Tv,drop_of_length_le->Tw,pairwise_flatMap->Tz,map_set->Ua,range_eq_range'->Ur,pairwise_append->Us,perm_singleton->Vf,getElem?_range->Vg,map_filterMap->Vx,getElem?_drop->Vy,forIn_toArray->Vz,filter_append->Wa,filterMap_nil->Wb,foldl_append->Wi,foldl->Wj,Nodup->Wk,zipIdx_cons->Xa,range'_succ->Xb,flatMap_nil->Xc,ext_getElem->Xd,any_eq_true->Xe,zipIdx_nil->Xp,sum_append->Xq,length_zip->Xr,find?_some->Xs,count_cons->Xt,map->Zd,elem_iff->Ze,all_cons->Zf,toArray->Aai,sum_nil->Aaj,range'->Aa8
open PySem.W renaming Frag->Ad,kia_one->En,findIn->Fd,emptyDict->Fu,fnOf->Gi,instObj->Hb,mg_of->Ir,keepIn->Iu,plainGet->Ly,cellsFrom_some->Md,lookIn->Mx,plainGet_of->Ni,callWith_K->Nv,methodObj->Oj,kitx_dict->Ol,hasDictIn->Om,takerIn->Pi,makesIn->Pj,kitOne->Qf,codeIn->Qg,nsIn->Se,methodCall_KW->Sf,isFn->Sg,plainOver->Uj,kitx_list->Uk,handedIn->Vc
open PySem.Heap renaming get?_push_of_some->Ae,get?_push_size->Au,lt_size->Aw,get?_update_self->Bt,get?_update_other->Cp,size_push->Df,SameBut->Eo,get?_none_of_le->Nt,ExtBut->Qs
open Nat renaming le_refl->Ak,ne_of_lt->Bc,lt_of_lt_of_le->Bn,zero_le->Bp,le_trans->Dd,le_add_right->Dh,lt_irrefl->Ej,not_lt_zero->Eu,ne_of_gt->Gm,le_of_lt->Gn,lt_succ_self->Gy,le_succ->Hq,lt_trichotomy->Iw,lt_succ_of_lt->Iy,zero_add->Kf,le_max_right->Mr,strongRecOn->Nj,lt_trans->Nk,le_max_left->Nl,le_of_succ_le->Pk,lt_or_ge->Pp,min_eq_left->Re,mod_lt->Ss,lt_of_succ_lt_succ->Tx,succ_pos->Um,sub_zero->Uo,le_of_eq->Up,add_comm->Uq,succ_le_succ->Xn,min_eq_right->Xo,beq->Yf,shiftRight->Zc,succ_add->Aa4,mul_comm->Aa5,min_self->Aa6,le_total->Aa7
open Bool renaming false_ne_true->Ar,false_eq_true->Dg,and_false->Ji,and_eq_true->Kl,not_false->Lm,false_and->Lo,not_true->Oy,eq_false_iff->Wp,eq_iff_iff->Xv,true_and->Zp,or_false->Zq,and_true->Zr
open PySem.Value renaming ref->As,none->Cb,int->Ey,isInt_shape->Gk,type->Hr,bool->Lu,isInt->Mc,str->Qd,float->Ui,isStrOf->Ya,builtin->Yb,bytes->Aaf
open Array renaming length_toList->Az,getElem?_eq_getElem->Bz,getElem?_toList->De,forIn_toList->Gf,getD->Ks,getElem?_eq_some_iff->Lh,getElem?_eq_none->Mq,mem_toList_iff->Nn,toList_push->Wg,toList_inj->Wq,toList->Zs,ext'->Abl
open PySem.PassesOwn renaming never->Bl
open Option.some renaming inj->Bs
open PySem.Around renaming under_plainId->Ci,under->Sy
open PySem.Builtin.SmallTypes renaming ownedTupleIsFree->Cj,nextOf->Cy,ownedTupleHandOut->Lg
open Int renaming toNat_natCast->Ck,eq_ofNat_of_zero_le->Fp,toNat->Kg,emod_lt_of_pos->Pa,emod->Pb,natCast_add->Rg,emod_nonneg->Rh,mul_nonneg->Zh,mul_le_mul->Zi,le_trans->Aa9,add_mul->Abr
open PySem.Heap.SameBut renaming update->Cv,trans->Aba,refl->Abb
open PyProof.Rows.F renaming plain_set_update_loop->Da,entry_set_update_loop->Ga
open Ne renaming symm->Dc
open Or renaming inl->Dl,inr->Dr
open Classical renaming byContradiction->Dn
open PySem.SetTable renaming below->Do,insertAt->Jr,turns->Mv,insertAt->Nf,fits->Ql,fill->Qm,runEnd->Th
open PySem.Builtin.Tuple renaming tupleHashOf->Dv,tupleExact->Ii,tupleItemsOf->Oa
open List.cons renaming inj->Dy
open PySem.Obj renaming mapSeq->Ea,data_mapFields->Ep,isFreed_of_fields->Ij,cls_mapFields->Kc,mapFields->Kv,putSet->Nq,data_mapDictKeys->Ve
open PyProof.Rows renaming callWith_type1->Eb,boot_list->Gh,slot_tuple_getitem->Jm,seqObj->Ki,boot_all->Nh,IntsAre->Nm,boot_tuple->Os,AllBare->Pn,lt_int->Qq,envOfC->Ro,boot_int->Sq,boot_sorted->To,sortedHeap->Uw,subscriptTail->Vp,listUpdate_at->Vt,Constant_none->Wc,subscriptTail_builtinR->Wh,seqEpoch_at->Xy,boot_sum->Yu,boot_max->Yv,boot_range->Aab,Subscript_->Aag,callWith_kw->Aa2,callWith_builtin1->Aa3,boot_isinstance->Abp
open PySem.NameKind renaming free->Ee,cell->Er
open PySem.Str renaming ofString->Eh
open PySem.Builtin.List renaming listExtendWith->Ew,listFitsIndex->Hu,listTooLong->Ik,listSameRef->Il,listLengthHint->Oc,listTouch->Pl,listItems->Pm,listUpdate->Abe
open PySem.Builtin.Dict_items renaming ownsTuple->Fy,newIterator->Wn,dictOf->Wo
open False renaming elim->Hg
open True renaming intro->Hh
open PySem.F renaming slot_zip_next->Hl,slot_dict_valueiterator_next->Hs,slot_dict_keyiterator_next->Ih,plain_extend_loop->Iv,slot_tuple_iterator_next->Jh,plainAttrs_list->Jo,args_tuple_add_2->Lj,entry_tuple_add->Lv,slot_tuple_add->Me,args_zip_next_1->Mp,entry_zip_next->Na,args_dict_valueiterator_next_1->Pw,entry_extend_loop->Qh,entry_dict_valueiterator_next->Qk,type_list_append->Qn,slot_list_append->Qo,slot_dict_values->Qp,args_dict_keyiterator_next_1->Qt,plain_min_loop->Ri,plain_max_loop->Rj,entry_dict_keyiterator_next->Rk,args_tuple_iterator_next_1->Rx,slot_dict_len->Sh,entry_tuple_iterator_next->Sm,slot_dict_values_iter->Ut,kt_typeCall_dict_1->Wm,args_dict_init_2->Xu,slot_tuple_hash->Yh,plain_list_iadd->Yi,entry_dict_init->Yj,slot_dict_iter->Zk,kt_called_dict->Zl,entry_min_loop->Zm,entry_max_loop->Zn,slot_zip_iter->Aam,slot_tuple_eq->Aan,slot_set_iter->Aao,slot_int_rmul->Aap,plain_set_new->Aaq
open PySem.Builtin.Slice renaming slicePlaces->Hx,sliceAdjust->Kh,sliceApplied->Ob,slicePartIndex->Aas,sliceFields->Aat
open PySem.Builtin.Dict renaming updateFrom->Ja,showsAll->Jq,pendingCount->Ow,dictSlotNone->Ox,selfAndRest->Pd,readDirectly->Abf,pairItems->Abg,noArgs->Abh,mergeDict->Abi,merge->Abj,addKeywords->Abk
open ForInStep renaming yield->Jl
open Option renaming map_some->Jp,map_eq_some_iff->Jw,isSome_iff_exists->Ll,isSome_some->Ul,isSome_map->Vd,getD_none->Vw
open PySem.Builtin.Builtins renaming bindParams->Jv
open Nat.succ renaming inj->Kw
open List.Perm renaming refl->Kx,swap->Vh
open PySem.SetTable.probe renaming go->Li
open PySem.Shared renaming TypeIs->Lx,heap->Yx
open Iff renaming rfl->Mo
open PySem.SeqAt renaming EqAt->Mw,RcNeAt->Yy,RcAt->Aa0
open Sum renaming inr->Oi,inl->Rc
open PySem.SeqAt.EqAt renaming same->Ot,str_int->Sa,of_refs->Sb,int_str->Sd
open PySem.Builtin.Range renaming rangeSize->Pc
open PySem.SetTable.below renaming go->Po
open List.Pairwise renaming of_map->Pv,nil->Rf,filter->Aak,and_mem->Aal
open Prod renaming ext->Qi
open PySem.Moved renaming trans->Qj
open PySem.Data renaming cell->Qu,fields->Vj,seq->Zo
open PySem.Calls renaming Name_function_global->Qv,call_function_entry->Rm,callWith_builtin->Sx,spliced_cons->Vk,spliced_nil->Wd
open PySem.pickOrder renaming go->Qx
open PySem.Walks renaming list->Rp
open PySem.Paired renaming length->Rq,snoc->Za
open PySem.Heap.DictOfH renaming new->Sk
open PySem.SeqAt.RcAt renaming tuples->Sr,lists->Tp
open Function renaming comp_def->Ub
open PySem.Code renaming isFrame->Uc,frames->Abd
open PyProof.Rows.IsTup renaming new->Xf
open PySem.Builtin.Frozenset renaming updateFrom->Xg,slot0->Xh,sizeOf->Xi,newClass->Xj
open Std.Legacy.Range renaming forIn_eq_forIn_range'->Xm
open Sum.inl renaming inj->Yc
open PySem.AutoListH renaming list_insert_list_int_val_1->Yd
open Prod.mk renaming inj->Ye
open PySem.Heap.IsSliceOf renaming new->Zj
open PySem.W.WShape renaming has->Aae
open PySem.W.Looks renaming here->Aah
open PySem.CmpOp renaming NotIn->Aar
open PySem.SeqAt.RcNeAt renaming tuples->Aay,lists->Aaz
open PySem.Within renaming cons->Aa1
open Eq renaming trans->Abc
open PySem.W.WData renaming int->Abq
open PySem.Heap.IsList renaming push->Abs
open PySem.Heap.DictOf renaming new->Abt
def Ab0:=@if_neg
def Ab1:=@if_pos
def Ab2:=@absurd
def Ab3:=@of_decide_eq_true
def Ab4:=@of_decide_eq_false
def Ab5:=@decide_eq_true
def Ab6:=@decide_eq_false
def Ab7:=@decide_eq_true_iff
def Ab8:=@eq_of_beq
def Ab9:=@congrArg
def Ac0:=@beq_self_eq_true
def Ac1:=@if_false
def Ac2:=@if_true
set_option compiler.extract_closed false
set_option bootstrap.genMatcherCode false
set_option genSizeOf false
local macro_rules| `(tactic|trivial)=> `(tactic|first|exact Dl rfl|exact Dr (Dl rfl)|exact Dr (Dr rfl)|exact Dr rfl)
local macro_rules| `(tactic|ac_rfl)=> `(tactic|simp only[Oy,Dg,Ac1])
local macro_rules|`(∅)=>`(by lia)
local macro_rules|`(⋯)=>`(by decide)
set_option hygiene false
local macro_rules|`(⇑$x)=>`(Cal P w K mg base CX0 $x)
local macro_rules|`(↥$x)=>`(bJ P w K mg base CX0 $x)
local macro_rules|`(~~~$x)=>`(show ($x : List Str).Nodup by decide+kernel)
local macro_rules|`(↑$x)=>`(fun cl C s2 H2 fp=>$x)
local macro_rules|`(#v[0])=>`(s.heap.objs.size)
local macro_rules|`(#v[1])=>`(SetTable.advs t.mask N (t.probeStart (knd.hash k)))
local macro_rules|`(#v[2])=>`(bD X (cH own cap) scope cl C s2 H2 fp)
local macro_rules|`(#v[3])=>`(Inv X aa σ H s)
local macro_rules|`(#v[4])=>`(by decide+kernel)
local macro_rules|`(#v[5])=>`(Value->Shared->Prop)
local macro_rules|`(#v[6])=>`(List (Addr×Obj))
local macro_rules|`(#v[7])=>`({cls:=.type "dict",data:=.dict (List.toArray [])})
local macro_rules|`(#v[8])=>`(.ListComp elt [⟨tg,iter,[],0⟩] scope pos)
local macro_rules|`(#v[9])=>`(.ListComp elt [⟨tg,iter,[ci],0⟩] scope pos)
local macro_rules|`(#v[10])=>`(Option Value)
local macro_rules|`(#v[11])=>`(List (Tke×Addr×Value))
local macro_rules|`(#v[12])=>`(List (Str×Nat))
local macro_rules|`(#v[13])=>`(.ListComp elt [⟨tg,iter,cis,0⟩] scope pos)
local macro_rules|`(#v[a])=>`(model X.prog X.w)
local macro_rules|`(#v[b])=>`(model prog w)
local macro_rules|`(#v[c])=>`(aO aK bF T.len Cf (aJ (aA 0) aM))
local macro_rules|`(#v[d])=>`(aL c__law_draw (hr.mono ⋯) rfl (aB (aA 1) (aB aH aF)))
local macro_rules|`(#v[e])=>`(s.heap.push {cls:=.type "set",dict:=none,data:=.set (List.toArray []) 0 (.fresh 0 0 led)})
local macro_rules|`(#v[f])=>`(List (List Nat))
local macro_rules|`(#v[g])=>`(∀i m σc H3,W i m σc H3->(J.stop i H3/\Q (.ref s2.heap.objs.size) H3)∨(J.go i H3/\∀x H4,J.yld i H3 x H4->g x σc H4 λσ5 H5=>tc σ5 H5 λok H5'=>if ok=true then te σ5 H5' λy H6=>∃ys,H6 s2.heap.objs.size=some (.lst ys)/\ys.length<sizeLine/\∃m',m'<m/\W (i+1) m' σ5 (upd H6 s2.heap.objs.size (.lst (ys++[y])))else∃m',m'<m/\W (i+1) m' σ5 H5'))
local macro_rules|`(#v[h])=>`(bV X (cH own cap) scope cs C s2 H2 fp)
local macro_rules|`(#v[i])=>`(pdO P w (kv0 (spS ns r.toNat)))
local macro_rules|`(#v[j])=>`(⇑2 "is_within" PW3 (spV fP))
local macro_rules|`(#v[k])=>`(Gi x q (jC st) (gF st) (aC st) .none kV doc pm an ae ct)
local macro_rules|`(#v[l])=>`(t.probeStart (knd.hash k))
local macro_rules|`(#v[m])=>`(bV X Nc scope cs C s2 H2 fp)
local macro_rules|`(#v[n])=>`(Ca [a,b] X.env=[(false,eval a X.env),(false,eval b X.env)])
local macro_rules|`(#v[o])=>`(∀b∈ch,(b∈X.ex∨X.s₀.heap.objs.size<=b)/\b≠X.env.locals/\(∀x c,X.env.cells.lookup x=some c->c≠b)/\∀p∈X.pn++aa,p.1≠b)
local macro_rules|`(#v[p])=>`(Fe #v[8] (some (.Name x py)) spos.line X.env=pure true)
local macro_rules|`(#v[q])=>`(List U->(Sl->Prop)->Prop)
local macro_rules|`(#v[r])=>`(ha aa s σ H _ I h)
local macro_rules|`(#v[s])=>`(∀C H' s' m,s2.heap.objs.size<=C->s'.heap.Ns C m->H' C=none->Inv X aa σ H' s'->(∀h',Eo C s'.heap h'->Inv X aa σ H' {s' with heap:=h'})->Q (.ref s2.heap.objs.size) H'->RR (.ref s2.heap.objs.size) C (.ok .next) s')
local macro_rules|`(#v[t])=>`(Gx pos (Ed [⟨some "default",k,kp⟩] X.env))
local macro_rules|`(#v[u])=>`(bI aY bH (aA 0) aH)
local macro_rules|`(#v[v])=>`(∀b xs,H b=some (.tup xs)->H' b=some (.tup xs))
local macro_rules|`(#v[w])=>`(lQ P w K mg base N 1 "inner" (lR N))
local macro_rules|`(#v[x])=>`(ns.map U.n)
local macro_rules|`(#v[y])=>`(.sh (.b true))
local macro_rules|`(#[$x,*])=>`(⟨$x,*⟩)
set_option Elab.async false
set_option linter.all false
set_option maxRecDepth 100000
namespace L2
variable {E:#v[5]}{Q:#v[5]}{u:Value}{us:List Value}{mg:Str->#v[10]}{kw:List (Str×Value)}{t':Nat}{b:Addr}{pos:Pos}{body:List Stmt}{base:Heap}{mA:Str->#v[10]}{ch:List Addr}{fp:List Addr}{i:Nat}{k:Nat}{g:Int->Int->Int}{N ps:List Str}
open PySem PySem.Spec PyProof.Rows
abbrev Key:=Sum Int Str
def aCv:Key->Value->Bool
 |.inl k,v=>Mc k v
 |.inr x,v=>Ya x v
def bCt(w:Bh):Key->Int
 |.inl k=>hashInt k
 |.inr x=>hashStr w x
def eE:∀{k:Key}{v:Value},aCv k v=true->(∃i t,k=Rc i/\v=Ey i t)∨(∃x t,k=Oi x/\v=Qd x t)
 |.inl i,v,h=>by
  obtain⟨t,e⟩:=Gk (k:=i) (v:=v) h;exact .inl #[i,t,rfl,e]
 |.inr x,v,h=>by
  obtain⟨t,e⟩:=Value.isStrOf_shape (x:=x) (v:=v) h;exact .inr #[x,t,rfl,e]
def aMb(i:Int)(t:Tok):aCv (.inl i) (.int i t)=true:=by simp[aCv,Mc]
def aMc(x:Str)(t:Tok):aCv (.inr x) (.str x t)=true:=by simp[aCv,Ya]
def aW6(a b:Int):decide ((Rc a:Key)=Rc b)=(a==b):=by
 by_cases e:a=b
 ·subst e;simp
 ·have h:¬(Rc a:Key)=Rc b:=λq=>e (Yc q);rw[Ab6 h];exact(beq_eq_false_iff_ne.mpr e).symm
def aW9(a b:Str):decide ((Oi a:Key)=Oi b)=decide (a=b):=by
 by_cases e:a=b
 ·subst e;simp
 ·have h:¬(Oi a:Key)=Oi b:=λq=>e (Sum.inr.inj q);rw[Ab6 h,Ab6 e]
def aW7(a:Int)(b:Str):decide ((Rc a:Key)=Oi b)=false:=Ab6 (λq=>nomatch q)
def aW8(a:Str)(b:Int):decide ((Oi a:Key)=Rc b)=false:=Ab6 (λq=>nomatch q)
def gH(prog:An)(w:Bh):PySem.KeyKind prog w Key where
 is:=aCv
 hash:=bCt w
 inj:=λv a b ha hb=>by
  rcases eE ha with ⟨i,t,rfl,rfl⟩|⟨x,t,rfl,rfl⟩
  ·rcases eE hb with ⟨j,u,rfl,e⟩|⟨y,u,rfl,e⟩
   ·injection e with e1 _;rw[e1]
   ·exact nomatch e
  ·rcases eE hb with ⟨j,u,rfl,e⟩|⟨y,u,rfl,e⟩
   ·exact nomatch e
   ·injection e with e1 _;rw[e1]
 byValue:=λk v h=>by
  rcases eE h with ⟨i,t,rfl,rfl⟩|⟨x,t,rfl,rfl⟩<;>rfl
 pyHash:=λhv h=>by
  rcases eE hv with ⟨i,t,rfl,rfl⟩|⟨x,t,rfl,rfl⟩
  ·exact wpAny_pyHash_int h
  ·exact wpAny_pyHash_str h
 eqBool:=λhu hv h=>by
  rcases eE hu with ⟨i,t,rfl,rfl⟩|⟨x,t,rfl,rfl⟩
  ·rcases eE hv with ⟨j,u,rfl,rfl⟩|⟨y,u,rfl,rfl⟩
   ·rw[aW6]at h;exact Ry h
   ·rw[aW7]at h;exact Sd i t y u _ _ _ _ h
  ·rcases eE hv with ⟨j,u,rfl,rfl⟩|⟨y,u,rfl,rfl⟩
   ·rw[aW8]at h;exact Sa x t j u _ _ _ _ h
   ·rw[aW9]at h;exact wpAny_eqBool_str h
 «strs»:=λk x t v h=>by
  rcases eE h with ⟨i,u,rfl,e⟩|⟨y,u,rfl,e⟩
  ·exact nomatch e
  ·injection e with e1 _
   subst e1;cases v<;>rfl
def aGp(prog:An)(w:Bh)(i:Int)(t:Tok):(gH prog w).is (.inl i) (.int i t)=true:=aMb i t
def aGq(prog:An)(w:Bh)(x:Str)(t:Tok):(gH prog w).is (.inr x) (.str x t)=true:=aMc x t
inductive V where
 |non|bl (b:Bool)|int (i:Int)|str (x:Str)|byt (b:Array UInt8)|flt (b:UInt64)|ref (a:Addr)|ty (n:String)
 deriving DecidableEq
def RelV:V->Value->Prop
 |.non,u=>u=Cb
 |.bl b,u=>u=Lu b
 |.int i,u=>∃t,u=Ey i t
 |.str x,u=>∃t,u=Qd x t
 |.byt b,u=>∃t,u=Aaf b t
 |.flt b,u=>∃t,u=Ui b t
 |.ref a,u=>u=As a
 |.ty n,u=>u=Hr n
abbrev Vals:List V->List Value->Prop:=Zb RelV
def Vals.length{xs:List V}(r:Vals xs us):xs.length=us.length:=Rq r
def Vals.get:∀{xs:List V}{us:List Value}{i:Nat}{x:V},Vals xs us->xs[i]? =some x->∃u,us[i]? =some u/\RelV x u
 |_,_,_,_,.nil,e=>by simp at e
 |_,_,0,_,.cons r _,e=>by simp at e;subst e;exact#[_,rfl,r]
 |_,_,i+1,x,.cons _ t,e=>by
  obtain⟨u,h1,h2⟩:=Vals.get (i:=i) (x:=x) t (by simpa using e);exact#[u,by simpa using h1,h2]
def Vals.set(r:RelV x u):∀{xs:List V}{us:List Value}(i:Nat),Vals xs us->Vals (xs.set i x) (us.set i u)
 |_,_,_,.nil=> .nil
 |_,_,0,.cons _ t=> .cons r t
 |_,_,i+1,.cons q t=> .cons q (Vals.set r i t)
def Vals.append:∀{xs ys:List V}{us ws:List Value},Vals xs us->Vals ys ws->Vals (xs++ys) (us++ws)
 |_,_,_,_,.nil,s=>s
 |_,_,_,_,.cons r t,s=> .cons r (Vals.append t s)
def Vals.take:∀{xs:List V}{us:List Value}(n:Nat),Vals xs us->Vals (xs.take n) (us.take n)
 |_,_,0,_=> .nil
 |_,_,_+1,.nil=> .nil
 |_,_,n+1,.cons r t=> .cons r (Vals.take n t)
def Vals.drop:∀{xs:List V}{us:List Value}(n:Nat),Vals xs us->Vals (xs.drop n) (us.drop n)
 |_,_,0,r=>r
 |_,_,_+1,.nil=> .nil
 |_,_,n+1,.cons _ t=>Vals.drop n t
def tZ:Option V->#v[10]->Prop
 |some v,some u=>RelV v u
 |none,none=>True
 |_,_=>False
def KV{κ:Type}:List (κ×V)->List (κ×Value)->Prop:=Zb λ(p:κ×V)(q:κ×Value)=>p.1=q.1/\RelV p.2 q.2
def kV:Key->V
 |.inl i=> .int i
 |.inr x=> .str x
inductive HO where
 |lst (xs:List V)
 |tup (xs:List V)
 |dK (kvs:List (Key×V))|dT (kvs:List (List Key×V))
 |set (S:Int->Bool) (n:Nat)
 |ins (C dx:Addr) (fs:List (Str×V))
 |own (x:Addr)
 |xd (fs:List (Str×V))
 |met (f x:Addr)
 |rng (lo hi:Int)
 |frz (o:Obj) (u:HO)
 |tbl (ps:Array Value)
 |ext (φ:Heap->Prop)
abbrev Hp:=Addr->Option HO
def upd(H:Hp)(a:Addr)(o:HO):Hp:=λb=>if b=a then some o else H b
def aP:upd H a o a=some o:=by unfold upd;rw[Ab1 rfl]
def aN{a b:Addr}(h:b≠a):upd H a o b=H b:=by unfold upd;rw[Ab0 h]
def bAn{H:Hp}{a b:Addr}{o u:HO}(h:H a=some o)(h':H b=some u)(d:o≠u):a≠b:=by
 intro e;subst e;rw[h]at h';exact d (Bs h')
def aR{H:Hp}{a b:Addr}{o:HO}(h:H a=some o)(h':H b=none):a≠b:=by
 intro e;subst e;rw[h]at h';cases h'
section
variable (P:An)(w:Bh)
def bO(H:Hp)(h:Heap)(a:Addr):HO->Prop
 |.lst xs=>xs.length<=sizeLine/\∃(ab:List Value)(n:Nat),Vals xs ab/\h.get? a=some {cls:=.type "list",data:=.seq ab.toArray n}
 |.tup xs=>xs.length<=sizeLine/\∃ab:List Value,Vals xs ab/\IsTup h a ab.toArray
 |.dK kvs=>kvs.length<=sizeLine/\(a==Gs)=false/\∃vs,KV kvs vs/\h.DictOf (gH P w) a vs
 |.dT kvs=>kvs.length<=sizeLine/\(a==Gs)=false/\∃xs:List (List Key×Addr×Value),
   Zb (λ(p:List Key×V)(q:List Key×Addr×Value)=>p.1=q.1/\H q.2.1=some (.tup (p.1.map kV))/\RelV p.2 q.2.2) kvs xs/\
   ∃o es ep,h.get? a=some o/\o.ExactDict/\o.data=.dict es ep/\es.toList=xs.map (Oo (Pz (gH P w)))/\(xs.map (·.1)).Nodup
 |.set S n=>h.SetOf (Et P w) a S n
 |.ins C dx fs=>H dx=some (.own a)/\fs.length<=1000/\dx≠a/\h.get? a=some (Hb C dx)/\
   ∃mA,h.Ns1 dx mA/\(∀f,tZ (fs.lookup f) (mA f))/\Tq mA (fs.map (·.1))
 |.own _=>∃o,h.get? a=some o
 |.xd fs=>∃mA,h.Ns1 a mA/\∀f,tZ (fs.lookup f) (mA f)
 |.rng lo hi=>∃t u v,h.get? a=some {cls:=.type "range",data:=.fields (List.toArray [.int lo t,.int hi u,.int 1 v])}
 |.frz o u=>h.get? a=some o/\bO H h a u
 |.tbl ps=>h.get? a=some {cls:=.none,data:=.fields ps}
 |.met f x=>h.get? a=some (Oj (.ref f) (.ref x))
 |.ext φ=>φ h/\(∃o,h.get? a=some o)/\∀h1 h2:Heap,φ h1->(∀o,h1.get? a=some o->h2.get? a=some o)->φ h2
def HOk(H:Hp)(h:Heap):Prop:=∀a o,H a=some o->bO P w H h a o
end
variable {P:An}{w:Bh}{H H':Hp}{h h':Heap}{a:Addr}{o:HO}
def bO.lt(x:bO P w H h a o):a<h.objs.size:=by
 cases o with
 |lst xs=>obtain⟨_,_,_,_,e⟩:=x;exact Aw e
 |tup xs=>obtain⟨_,_,_,p⟩:=x;exact p.lt
 |dK kvs=>obtain⟨_,_,_,_,o,_,_,e,_⟩:=x;exact Aw e
 |dT kvs=>obtain⟨_,_,_,_,o,_,_,e,_⟩:=x;exact Aw e
 |set S n=>obtain⟨o,_,_,_,e,_⟩:=x;exact Aw e
 |ins C dx fs=>obtain⟨_,_,_,e,_⟩:=x;exact Aw e
 |own y=>obtain⟨_,e⟩:=x;exact Aw e
 |xd fs=>obtain⟨_,⟨_,_,_,e,_⟩,_⟩:=x;exact Aw e
 |rng lo hi=>obtain⟨_,_,_,e⟩:=x;exact Aw e
 |frz ob u=>obtain⟨e,_⟩:=x;exact Aw e
 |tbl ps=>exact Aw (show h.get? a=some _ from x)
 |met f y=>exact Aw (show h.get? a=some _ from x)
 |ext φ=>obtain⟨_,⟨_,e⟩,_⟩:=x;exact Aw e
def Paired.mapP{α β:Type}{F G:α->β->Prop}:∀{l₁:List α}{l₂:List β},Zb F l₁ l₂->(∀a b,F a b->G a b)->Zb G l₁ l₂
 |_,_,.nil,_=> .nil
 |_,_,.cons r t,f=> .cons (f _ _ r) (Paired.mapP t f)
def bO.stay(x:bO P w H h a o)(k:∀b u,(b=a∨H b=some (.own a))->h.get? b=some u->h'.get? b=some u)
  (ho:∀b,H b=some (.own a)->H' b=some (.own a)) (ht:#v[v]):bO P w H' h' a o:=by
 induction o with
 |lst xs=>obtain⟨z,ab,n,r,e⟩:=x;exact#[z,ab,n,r,k _ _ (.inl rfl) e]
 |tup xs=>obtain⟨z,ab,r,ob,e,c⟩:=x;exact#[z,ab,r,ob,k _ _ (.inl rfl) e,c]
 |dK kvs=>obtain⟨z,y,vs,r,ob,es,ep,e,c⟩:=x;exact#[z,y,vs,r,ob,es,ep,k _ _ (.inl rfl) e,c]
 |dT kvs=>
  obtain⟨z,y,xs,r,ob,es,ep,e,c⟩:=x;exact#[z,y,xs,Paired.mapP r λp q z=>#[z.1,ht _ _ z.2.1,z.2.2],ob,es,ep,k _ _ (.inl rfl) e,c]
 |set S n=>obtain⟨ob,es,ep,t,e,c⟩:=x;exact#[ob,es,ep,t,k _ _ (.inl rfl) e,c]
 |ins C dx fs=>
  obtain⟨d,z,ne,e,mA,⟨od,es,ep,e2,c⟩,r⟩:=x;exact#[ho _ d,z,ne,k _ _ (.inl rfl) e,mA,#[od,es,ep,k _ _ (.inr d) e2,c],r]
 |own y=>obtain⟨ob,e⟩:=x;exact#[ob,k _ _ (.inl rfl) e]
 |xd fs=>obtain⟨mA,⟨od,es,ep,e,c⟩,r⟩:=x;exact#[mA,#[od,es,ep,k _ _ (.inl rfl) e,c],r]
 |rng lo hi=>obtain⟨t,u,v,e⟩:=x;exact#[t,u,v,k _ _ (.inl rfl) e]
 |frz ob u ih=>obtain⟨e,q⟩:=x;exact#[k _ _ (.inl rfl) e,ih q]
 |tbl ps=>
  have e:h.get? a=some {cls:=.none,data:=.fields ps}:=x;show h'.get? a=some {cls:=.none,data:=.fields ps};exact k a _ (.inl rfl) e
 |met f y=>
  have e:h.get? a=some (Oj (.ref f) (.ref y)):=x;show h'.get? a=some (Oj (.ref f) (.ref y));exact k a _ (.inl rfl) e
 |ext φ=>obtain⟨p,⟨o,e⟩,st⟩:=x;exact#[st _ _ p λo q=>k _ _ (.inl rfl) q,#[o,k _ _ (.inl rfl) e],st]
def HOk.lt(x:HOk P w H h)(e:H a=some o):a<h.objs.size:=(x a o e).lt
def HOk.fresh(x:HOk P w H h)(e:h.objs.size<=a):H a=none:=by
 cases q:H a with
 |none=>rfl
 |some u=>exact Ab2 (Bn (x.lt q) e) (Ej _)
def HOk.kept(x:HOk P w H h)(k:∀b u,h.get? b=some u->h'.get? b=some u):HOk P w H h':=λa o e=>
 (x a o e).stay (λb u _ q=>k b u q) (λ_ q=>q) λ_ _ q=>q
def HOk.laid(x:HOk P w H h)(k:∀b u,h.get? b=some u->h'.get? b=some u)(hp:h.objs.size<=a)(new:bO P w (upd H a o) h' a o):HOk P w (upd H a o) h':=λb u e=>by
 have hn:=x.fresh hp;by_cases hb:b=a
 ·subst hb;rw[aP]at e;cases e;exact new
 ·rw[aN hb]at e;exact(x b u e).stay (λc v _ q=>k c v q) (λc q=>by rw[aN (aR q hn)];exact q) λc xs q=>by rw[aN (aR q hn)];exact q
def Rd(H:Hp)(a:Addr)(u:HO):Prop:=H a=some u∨∃o,H a=some (.frz o u)
def Rd.ok{P:An}{w:Bh}{H:Hp}{h:Heap}{a:Addr}{u:HO}(r:Rd H a u)(x:HOk P w H h):bO P w H h a u:=by
 rcases r with r|⟨o,r⟩
 ·exact x a u r
 ·obtain⟨_,q⟩:=x a _ r;exact q
def Mut:Option HO->Prop
 |some (.lst _)=>True
 |some (.dK _)=>True
 |some (.dT _)=>True
 |some (.set _ _)=>True
 |some (.ins _ _ _)=>True
 |some (.ext _)=>True
 |_=>False
variable {x e:Addr}{o':HO}
def HOk.write(ok:HOk P w H h)(mu:Mut (H x))(he:e=x∨H e=some (.own x))(k:∀b u,b≠e->h.get? b=some u->h'.get? b=some u)(heo:∃u,h'.get? e=some u)
  (new:bO P w (upd H x o') h' x o'):HOk P w (upd H x o') h':=λb u q=>by
 have nown:∀c y,H c=some (.own y)->c≠x:=λc y r z=>by subst z;rw[r]at mu;exact mu
 have ntup:∀c xs,H c=some (.tup xs)->c≠x:=λc xs r z=>by subst z;rw[r]at mu;exact mu
 by_cases hb:b=x
 ·subst hb;rw[aP]at q;cases q;exact new
 ·rw[aN hb]at q;by_cases hbe:b=e
  ·have q':H b=some (.own x):=by
    rcases he with z|z
    ·exact Ab2 (hbe.trans z) hb
    ·rw[hbe];exact z
   rw[q]at q';cases q';obtain⟨v,hv⟩:=heo;exact#[v,by rw[hbe];exact hv]
  ·refine(ok b u q).stay (λc v hc r=>k c v ?_ r) (λc r=>by rw[aN (nown c b r)];exact r) λc xs r=>by rw[aN (ntup c xs r)];exact r
   rcases hc with rfl|hc
   ·exact hbe
   ·rintro rfl;rcases he with z|z
    ·exact nown c b hc z
    ·rw[hc]at z;cases z;exact hb rfl
structure Un(fs ex:List Addr)(H H':Hp)(h h':Heap):Prop where
 keep:∀b o,h.get? b=some o->H b=none->b∉fs->b∉ex->h'.get? b=some o
 slot:∀b o,h.get? b=some o->H b=none->b∈fs->b∉ex->∃sl,h'.get? b=some {o with slots:=sl}
 free:∀b o,h.get? b=some o->H b=none->b∉ex->H' b=none
 there:∀b o,h.get? b=some o->b∉ex->∃o',h'.get? b=some o'
 tups:∀b xs,H b=some (.tup xs)->H' b=some (.tup xs)
 frzs:∀b o u,H b=some (.frz o u)->H' b=some (.frz o u)
 tbls:∀b ps,H b=some (.tbl ps)->∃more,H' b=some (.tbl (ps++more))
section
variable {fs fs' ex ex':List Addr}{H H1 H2:Hp}{h h1 h2 h':Heap}{a x e:Addr}{o:HO}
def Un.any(u:Un fs ex H H1 h h1)(q:h.get? b=some ob)(n:H b=none)(hx:b∉ex):∃sl,h1.get? b=some {ob with slots:=sl}:=by
 by_cases hb:b∈fs
 ·exact u.slot b ob q n hb hx
 ·exact#[ob.slots,u.keep b ob q n hb hx]
def Un.kept(k:∀b u,h.get? b=some u->h'.get? b=some u):Un fs ex H H h h':=
 #[λb ob q _ _ _=>k b ob q,λb ob q _ _ _=>#[ob.slots,k b ob q],λ_ _ _ n _=>n,λb ob q _=>#[ob,k b ob q],λ_ _ q=>q,λ_ _ _ q=>q,λ_ ps q=>#[(List.toArray []),by rw[q];simp]]
def Un.refl:Un fs ex H H h h:=Un.kept λ_ _ q=>q
def Un.laid(k:∀b u,h.get? b=some u->h'.get? b=some u)(hp:h.objs.size<=a)(hn:H a=none):Un fs ex H (upd H a o) h h' where
 keep:=λb u q _ _ _=>k b u q
 slot:=λb u q _ _ _=>#[u.slots,k b u q]
 free:=λb u q n _=>by rw[aN (Bc (Bn (Aw q) hp))];exact n
 there:=λb u q _=>#[u,k b u q]
 tups:=λb xs q=>by rw[aN (aR q hn)];exact q
 frzs:=λb u xs q=>by rw[aN (aR q hn)];exact q
 tbls:=λb ps q=>#[(List.toArray []),by rw[aN (aR q hn),q];simp]
def Un.write(mu:Mut (H x))(he:e=x∨H e=some (.own x))(k:∀b u,b≠e->h.get? b=some u->h'.get? b=some u)(heo:∃u,h'.get? e=some u):Un fs ex H (upd H x o) h h':=by
 have hx:∀b,H b=none->b≠x:=λb n z=>by subst z;rw[n]at mu;exact mu
 have hb:∀b,H b=none->b≠e:=λb n z=>by
  subst z;rcases he with r|r
  ·exact hx b n r
  ·rw[n]at r;cases r
 have hm:∀b u,H b=some u->¬Mut (some u)->b≠x:=λb u q nm z=>by subst z;rw[q]at mu;exact nm mu
 refine⟨λb u q n _ _=>k b u (hb b n) q,λb u q n _ _=>#[u.slots,k b u (hb b n) q],λb u q n _=>by rw[aN (hx b n)];exact n,λb u q _=>?_,
  λb xs q=>by rw[aN (hm b _ q λz=>z)];exact q,λb u xs q=>by rw[aN (hm b _ q λz=>z)];exact q,λb ps q=>#[(List.toArray []),by rw[aN (hm b _ q λz=>z),q];simp]⟩
 by_cases hbe:b=e
 ·subst hbe;exact heo
 ·exact#[u,k b u hbe q]
end
def trk(h:Heap)(H:Hp):List Addr:=(Bq h.objs.size).filter λa=>(H a).isSome
def aD9(h:Heap)(H:Hp):Heap:=PySem.W.hideAll h (trk h H)
def aL6(h:Heap)(H:Hp):(aD9 h H).objs.size=h.objs.size:=PySem.W.hideAll_size _ _
def aPb{h:Heap}{H:Hp}{o:Obj}(e:h.get? b=some o)(n:H b=none):(aD9 h H).get? b=some o:=
 PySem.W.hideAll_get _ e λhm=>by
  have q:(H b).isSome=true:=(Gq.mp hm).2;rw[n]at q;simp at q
def aS4{h:Heap}{H:Hp}{o:Obj}(e:(aD9 h H).get? b=some o):h.get? b=some o/\H b=none:=by
 have e':h.get? b=some o:=PySem.W.of_hideAll (trk h H) e;refine#[e',?_];cases q:H b with
 |none=>rfl
 |some x=>
  have hm:b∈trk h H:=Gq.mpr #[By.mpr (Aw e'),by simp[q]];have z:(aD9 h H).get? b=none:=PySem.W.hideAll_none (trk h H) hm;rw[z]at e;cases e
structure Mod(K:Ad)(mg:Str->#v[10])(base:Heap):Prop where
 kin:K.In base
 glob:base.Ns Ge mg
 blt:∃mb,base.Ns Aaa mb/\∀x:Str,x≠"__name__"->mb x=Fg x
 nolimit:base.NoLimit
structure Cx where
 prog:An
 w:Bh
 K:Ad
 mg:Str->#v[10]
 base:Heap
 A:Cm
 N:List Str
 s₀:Shared
 H₀:Hp
 env:Env
 outer:List Env
 stack:List Env
 ex:List Addr
 fn:Str->Bool
 calm:Bool
 pn:#v[6]
 xe:#v[5]
def frs(l:List Env):List Addr:=l.filterMap (·.frame)
abbrev Cx.fs(X:Cx):List Addr:=frs X.outer
def Vis(sc:Scope)(x:Str):Prop:=sc.names.lookup x=some .local∨sc.names.lookup x=some .cell∨sc.names.lookup x=some .free
def Loc(sc:Scope)(x:Str):Prop:=sc.names.lookup x=some .local∨sc.names.lookup x=some .cell
def Look(env:Env)(h:Heap)(m:Str->#v[10])(x:Str)(u:Value):Prop:=
 (env.kindOf x=some .local/\m x=some u)∨((env.kindOf x=some .cell∨env.kindOf x=some .free)/\∃c,env.cells.lookup x=some c/\h.IsCell c (some u))
structure Cx.Ok(X:Cx):Prop where
 mod:Mod X.K X.mg X.base
 kind:X.env.scope.kind=.function
 glob:X.env.globals=Ge
 blt:X.env.builtins=Aaa
 above:X.s₀.heap.objs.size<=X.env.locals
 inj:∀x y c,X.env.cells.lookup x=some c->X.env.cells.lookup y=some c->x=y
 has:∀x,(X.env.kindOf x=some .cell∨X.env.kindOf x=some .free)->∃c,X.env.cells.lookup x=some c
 cab:∀x c,X.fn x=true->X.env.cells.lookup x=some c->X.s₀.heap.objs.size<=c
 hd:X.calm=true->X.A.handled=none
 frames:X.A.frames=some X.stack
 stk:X.stack=X.outer∨(X.stack=X.env::X.outer/\X.env.frame=some X.env.locals)
 exf:∀b∈X.ex,b≠X.env.locals/\∀x c,X.env.cells.lookup x=some c->c≠b
 bs:∀b o,X.base.get? b=some o->X.s₀.heap.get? b=some o/\X.H₀ b=none
 bsz:X.base.objs.size<=X.s₀.heap.objs.size
 noex:∀b o,X.base.get? b=some o->b∉X.ex
 exfs:∀b∈X.ex,b∉X.fs
 funs:X.s₀.heap.FunFrames X.base X.outer
 frf:∀b∈X.fs,X.H₀ b=none
structure Inv(X:Cx)(aa:#v[6])(σ:List (Option V))(H:Hp)(s:Shared):Prop where
 ok:X.Ok
 os:s.os=X.s₀.os
 bare:Pn s.gens
 base:Un X.fs X.ex X.H₀ H X.s₀.heap s.heap
 loc:∃m,s.heap.Ns X.env.locals m/\∀(i:Nat)(x:Str)(v:V),X.N[i]? =some x->σ[i]? =some (some v)->Vis X.env.scope x->∃u,RelV v u/\Look X.env s.heap m x u
 cell:∀x c,X.env.cells.lookup x=some c->∃v,s.heap.IsCell c v
 free:H X.env.locals=none
 freeC:∀x c,X.env.cells.lookup x=some c->H c=none
 pin:∀p∈X.pn++aa,s.heap.get? p.1=some p.2/\H p.1=none/\p.1≠X.env.locals/\p.1∉X.fs/\∀v,p.2.data≠.cell v
 hok:HOk X.prog X.w H s.heap
 len:σ.length=X.N.length
variable {X:Cx}{aa:#v[6]}{σ:List (Option V)}{s:Shared}
def Cx.Ok.nofr(ok:X.Ok){o:Obj}(e:X.base.get? b=some o):b∉X.fs:=λhb=>by
 have:=(ok.funs.mem hb).1;rw[e]at this;cases this
def Inv.bs(I:#v[3]):∀b o,X.base.get? b=some o->s.heap.get? b=some o/\H b=none:=λb o e=>
 #[I.base.keep b o (I.ok.bs b o e).1 (I.ok.bs b o e).2 (I.ok.nofr e) (I.ok.noex b o e),I.base.free b o (I.ok.bs b o e).1 (I.ok.bs b o e).2 (I.ok.noex b o e)]
def Inv.bk(I:#v[3]):∀b o,X.base.get? b=some o->s.heap.get? b=some o:=λb o e=>(I.bs b o e).1
def Inv.mod(I:#v[3]):Mod X.K X.mg X.base:=I.ok.mod
def Inv.kIn(I:#v[3]):X.K.In s.heap:=I.ok.mod.kin.keeps I.bk
def Inv.lt(I:#v[3]):X.env.locals<#v[0]:=let⟨_,hn,_⟩:=I.loc;hn.lt
def Inv.sz(I:#v[3]):X.s₀.heap.objs.size<=#v[0]:=Dd I.ok.above (Gn I.lt)
def Inv.nofs(I:#v[3]){a:Addr}(h:#v[0]<=a):a∉X.fs:=λhb=>by
 obtain⟨_,o,ho,_⟩:=I.ok.funs.mem hb;exact Ab2 (Bn (Aw ho) (Dd I.sz h)) (Ej _)
def Inv.cne(I:#v[3]):∀x c,X.env.cells.lookup x=some c->c≠X.env.locals:=λx c e z=>by
 obtain⟨v,o,ho,hd⟩:=I.cell x c e;obtain⟨m,⟨o',es,ep,ho',hd',_⟩,_⟩:=I.loc;rw[z,ho']at ho;cases ho;rw[hd']at hd;cases hd
def Inv.funs(I:#v[3]):s.heap.FunFrames X.base X.outer:=by
 have all:∀(l:List Env),(∀b∈frs l,b∈X.fs)->X.s₀.heap.FunFrames X.base l->s.heap.FunFrames X.base l:=by
  intro l;induction l with
  |nil=>intro _ _;trivial
  |cons env r ih=>
   intro hs hl;obtain⟨hk,⟨L,o,hf,hn,ho,hd⟩,hr⟩:=hl;have hL:L∈X.fs:=hs L (by unfold frs;rw[Ld,hf];exact Ah);obtain⟨sl,e⟩:=I.base.slot L o ho (I.ok.frf L hL) hL λz=>I.ok.exfs L z hL;exact#[hk,#[L,_,hf,hn,e,hd],ih (λb hb=>hs b (by unfold frs;rw[Ld,hf];exact Af _ hb)) hr]
 exact all X.outer (λ_ hb=>hb) I.ok.funs
def Inv.stack(I:#v[3]):s.heap.FunFrames X.base X.stack:=by
 rcases I.ok.stk with e|⟨e,hf⟩
 ·rw[e];exact I.funs
 ·rw[e];obtain⟨m,hn,_⟩:=I.loc;refine .cons (by rw[I.ok.kind];decide) hf hn ?_ I.funs;exact Nt (Dd I.ok.bsz I.ok.above)
def Inv.stkSub(I:#v[3]):∀b∈frs X.stack,b∈X.env.locals::X.fs:=λb hb=>by
 rcases I.ok.stk with e|⟨e,hf⟩
 ·rw[e]at hb;exact Af _ hb
 ·rw[e]at hb;unfold frs at hb;rw[Ld,hf]at hb;exact hb
def Inv.stkFree(I:#v[3]):∀b∈frs X.stack,H b=none:=λb hb=>by
 rcases Ax.mp (I.stkSub b hb)with e|hb
 ·rw[e];exact I.free
 ·obtain⟨_,o,ho,_⟩:=I.ok.funs.mem hb;exact I.base.free b o ho (I.ok.frf b hb) λz=>I.ok.exfs b z hb
def Inv.step{g':Array Mh}{d':Drawn}(I:#v[3])
  (hch:#v[o])
  (keep:∀b o,b≠X.env.locals->b∉X.fs->b∉ch->s.heap.get? b=some o->H b=none->h'.get? b=some o)
  (slot:∀b o,b≠X.env.locals->b∈X.fs->b∉ch->s.heap.get? b=some o->H b=none->∃sl,h'.get? b=some {o with slots:=sl}) (free:∀b o,b∉ch->s.heap.get? b=some o->H b=none->H' b=none)
  (there:∀b o,b∉ch->s.heap.get? b=some o->∃o',h'.get? b=some o')
  (tups:#v[v]) (frzs:∀b o u,H b=some (.frz o u)->H' b=some (.frz o u)) (tbls:∀b ps,H b=some (.tbl ps)->∃more,H' b=some (.tbl (ps++more)))
  (ns:∀m,s.heap.Ns X.env.locals m->h'.Ns X.env.locals m) (hok:HOk X.prog X.w H' h') (hg:Pn g'):
  Inv X aa σ H' {s with heap:=h',gens:=g',drawn:=d',toks:=t'}:=by
 have neL:∀b o,X.s₀.heap.get? b=some o->b≠X.env.locals:=λb o e=>Bc (Bn (Aw e) I.ok.above);have neC:∀b o,X.s₀.heap.get? b=some o->b∉X.ex->b∉ch:=λb o e hx hb=>by
  rcases (hch b hb).1 with z|z
  ·exact hx z
  ·exact Ab2 (Bn (Aw e) z) (Ej _)
 have cellK:∀x c,X.env.cells.lookup x=some c->∀v,s.heap.IsCell c v->h'.IsCell c v:=λx c e v ⟨o,ho,hd⟩=>by
  have nch:c∉ch:=λz=>(hch c z).2.2.1 x c e rfl;by_cases hc:c∈X.fs
  ·obtain⟨sl,q⟩:=slot c o (I.cne x c e) hc nch ho (I.freeC x c e);exact#[_,q,hd]
  ·exact#[o,keep c o (I.cne x c e) hc nch ho (I.freeC x c e),hd]
 refine#[I.ok,I.os,hg,#[λb o e n hb hx=>?_,λb o e n hb hx=>?_,λb o e n hx=>?_,λb o e hx=>?_,λb xs e=>tups b xs (I.base.tups b xs e),λb o xs e=>frzs b o xs (I.base.frzs b o xs e),λb ps e=>?_],?_,λx c e=>?_,?_,λx c e=>?_,λp hp=>?_,hok,I.len]
 ·exact keep b o (neL b o e) hb (neC b o e hx) (I.base.keep b o e n hb hx) (I.base.free b o e n hx)
 ·obtain⟨sl,e1⟩:=I.base.slot b o e n hb hx;obtain⟨sl',e2⟩:=slot b _ (neL b o e) hb (neC b o e hx) e1 (I.base.free b o e n hx);exact#[sl',e2]
 ·obtain⟨o',e1⟩:=I.base.there b o e hx;exact free b o' (neC b o e hx) e1 (I.base.free b o e n hx)
 ·obtain⟨o',e1⟩:=I.base.there b o e hx;exact there b o' (neC b o e hx) e1
 ·obtain⟨m1,e1⟩:=I.base.tbls b ps e;obtain⟨m2,e2⟩:=tbls b _ e1;exact#[m1++m2,by rw[e2,Array.append_assoc]]
 ·obtain⟨m,hn,hl⟩:=I.loc;refine#[m,ns m hn,λi x v e1 e2 e3=>?_];obtain⟨u,r,l⟩:=hl i x v e1 e2 e3;refine#[u,r,?_];rcases l with l|⟨k,c,e,z⟩
  ·exact .inl l
  ·exact .inr #[k,c,e,cellK x c e _ z]
 ·obtain⟨v,z⟩:=I.cell x c e;exact#[v,cellK x c e v z]
 ·obtain⟨m,⟨o,_,_,ho,_⟩,_⟩:=I.loc;exact free _ o (λz=>(hch _ z).2.1 rfl) ho I.free
 ·obtain⟨v,o,ho,hd⟩:=I.cell x c e;exact free c o (λz=>(hch c z).2.2.1 x c e rfl) ho (I.freeC x c e)
 ·obtain⟨e,n,ne,nf,d⟩:=I.pin p hp;have nch:p.1∉ch:=λz=>(hch p.1 z).2.2.2 p hp rfl;exact#[keep p.1 p.2 ne nf nch e n,free p.1 p.2 nch e n,ne,nf,d]
def Inv.un(I:#v[3])(u:Un X.fs [] H H' s.heap h')(hok:HOk X.prog X.w H' h'):Inv X aa σ H' {s with heap:=h',toks:=t'}:=by
 obtain⟨m,⟨o,es,ep,ho,r⟩,_⟩:=id I.loc;obtain⟨sl,hL⟩:=u.any ho I.free (by simp);exact I.step (g':=s.gens) (d':=s.drawn) (ch:=[]) (λ_ z=>nomatch z) (λb o _ hb _ e n=>u.keep b o e n hb (by simp)) (λb o _ hb _ e n=>u.slot b o e n hb (by simp)) (λb o _ e n=>u.free b o e n (by simp)) (λb o _ e=>u.there b o e (by simp)) u.tups u.frzs u.tbls (λm' hm=>by
  obtain⟨o',es',ep',ho',r'⟩:=hm;rw[ho]at ho';cases ho';exact#[_,es',ep',hL,r']) hok I.bare
def Inv.call{g':Array Mh}{d':Drawn}(I:#v[3])(u:Un (frs X.stack) ch H H' s.heap h')(hok:HOk X.prog X.w H' h')(hg:Pn g')
  (hch:#v[o]):
  Inv X aa σ H' {s with heap:=h',gens:=g',drawn:=d',toks:=t'}:=by
 obtain⟨m,⟨o,es,ep,ho,r⟩,_⟩:=id I.loc;obtain⟨sl,hL⟩:=u.any ho I.free λz=>(hch _ z).2.1 rfl;exact I.step (ch:=ch) hch (λb o hL hb hc e n=>u.keep b o e n (λz=>(Ax.mp (I.stkSub b z)).elim hL hb) hc) (λb o _ _ hc e n=>u.any e n hc) (λb o hc e n=>u.free b o e n hc) (λb o hc e=>u.there b o e hc) u.tups u.frzs u.tbls (λm' hm=>by
  obtain⟨o',es',ep',ho',r'⟩:=hm;rw[ho]at ho';cases ho';exact#[_,es',ep',hL,r']) hok hg
def Inv.turned{it:Addr}(I:#v[3])(k:∀b o,b≠it->s.heap.get? b=some o->h'.get? b=some o)(hn:H it=none)(hL:it≠X.env.locals)
  (h1:it∈X.ex∨X.s₀.heap.objs.size<=it) (h2:∀x c,X.env.cells.lookup x=some c->c≠it) (h3:∀p∈X.pn++aa,p.1≠it):Inv X aa σ H {s with heap:=h',toks:=t'}:=by
 have nit:∀b u,H b=some u->b≠it:=λb u e z=>by rw[z,hn]at e;cases e
 refine I.step (g':=s.gens) (d':=s.drawn) (ch:=[it]) (λb hb=>?_) (λb o _ _ hc e _=>k b o (λz=>hc (by simp[z])) e) (λb o _ _ hc e _=>#[o.slots,k b o (λz=>hc (by simp[z])) e]) (λ_ _ _ _ n=>n)
  (λb o hc e=>#[o,k b o (λz=>hc (by simp[z])) e]) (λ_ _ e=>e) (λ_ _ _ e=>e) (λb ps e=>#[(List.toArray []),by rw[e];simp]) (λm hm=>?_) (λb u e=>?_) I.bare
 ·have e:b=it:=by simpa using hb
  subst e;exact#[h1,hL,h2,h3]
 ·obtain⟨o,es,ep,ho,r⟩:=hm;exact#[o,es,ep,k _ o (Dc hL) ho,r]
 ·refine(I.hok b u e).stay (λc v hc q=>k c v ?_ q) (λ_ q=>q) λ_ _ q=>q;rcases hc with z|z
  ·rw[z];exact nit b u e
  ·exact nit c _ z
def Inv.tok(I:#v[3])(t:Nat):Inv X aa σ H {s with toks:=t}:=I.un (h':=s.heap) (t':=t) Un.refl I.hok
def Inv.kept(I:#v[3])(k:∀b u,s.heap.get? b=some u->h'.get? b=some u):Inv X aa σ H {s with heap:=h',toks:=t'}:=I.un (Un.kept k) (I.hok.kept k)
def Inv.laid{a:Addr}{o:HO}(I:#v[3])(k:∀b u,s.heap.get? b=some u->h'.get? b=some u)(hp:#v[0]<=a)(new:bO X.prog X.w (upd H a o) h' a o):
  Inv X aa σ (upd H a o) {s with heap:=h',toks:=t'}:=I.un (Un.laid k hp (I.hok.fresh hp)) (I.hok.laid k hp new)
def Inv.write{x e:Addr}{o:HO}(I:#v[3])(mu:Mut (H x))(he:e=x∨H e=some (.own x))(k:∀b u,b≠e->s.heap.get? b=some u->h'.get? b=some u)(heo:∃u,h'.get? e=some u)
  (new:bO X.prog X.w (upd H x o) h' x o):Inv X aa σ (upd H x o) {s with heap:=h',toks:=t'}:=I.un (Un.write mu he k heo) (I.hok.write mu he k heo new)
def Inv.pins_of(I:#v[3])(h:∀p∈pins',s.heap.get? p.1=some p.2/\H p.1=none/\p.1≠X.env.locals/\p.1∉X.fs/\∀v,p.2.data≠.cell v):Inv X pins' σ H s:=
 #[I.ok,I.os,I.bare,I.base,I.loc,I.cell,I.free,I.freeC,λp hp=>(Bd.mp hp).elim (λz=>I.pin p (Bo _ z)) (h p),I.hok,I.len]
def aGt{N:List Str}(hN:N.Nodup){i j:Nat}{x:Str}(a:N[i]? =some x)(b:N[j]? =some x):i=j:=by
 obtain⟨h1,e1⟩:=Ay.mp a;obtain⟨h2,e2⟩:=Ay.mp b;exact(Kk hN).mp (e1.trans e2.symm)
abbrev ND(x:Str):Prop:=(x==("__debug__":Str))=false
abbrev BT(X:Cx)(pos:Pos)(es:List Cr):Prop:=(Np pos (Ca es X.env)).any (·.1)=false
abbrev FL(X:Cx)(x:Str):Prop:=X.fn x=true∨X.env.scope.names.lookup x=some .local
abbrev NC(x:Str):Prop:=(x==("__classdict__":Str))=false
abbrev SE(X:Cx)(e:Cr)(es:List Cr):Prop:=Ca (e::es) X.env=(false,eval e X.env)::Ca es X.env
abbrev FS(X:Cx)(e:Cr):Prop:=∀x,Qz e X.env x=pure x
abbrev HC(X:Cx):Prop:=∀x,X.env.scope.names.lookup x=some .cell->∃c,X.env.cells.lookup x=some c
abbrev EL(a b:Pos):Prop:=(a.endLine==b.line)=true
def yF{M:Model}{A:Cm}{x:Str}{v:V}{Q:Unit->Shared->Prop}(I:#v[3])(hN:X.N.Nodup)(hi:X.N[i]? =some x)(hx:Loc X.env.scope x)(r:RelV v u)
  (h:∀s',Inv X aa (σ.set i (some v)) H s'->(∃a,Eo a s.heap s'.heap/\(a=X.env.locals∨X.env.cells.lookup x=some a))->Q () s') (hf:FL X x:=by trivial):Bb M A (storeName X.env x u) Q E s:=by
 obtain⟨m,hn,hl⟩:=id I.loc;have hcls:(X.env.scope.kind== .class || (X.env.scope.kind== .module && X.env.locals != X.env.globals))=false:=by rw[I.ok.kind];rfl
 have hiσ:i<σ.length:=by rw[I.len];exact(Ay.mp hi).1
 have cne:=I.cne;have tracked:∀{a:Addr}{h':Heap},(∃o,s.heap.get? a=some o/\H a=none)->Eo a s.heap h'->HOk X.prog X.w H h':=λ{a h'} ha hs b ob e=>by
  obtain⟨_,_,hfree⟩:=ha;refine(I.hok b ob e).stay (λc w' hc q=>(hs.2 c ?_).trans q) (λ_ q=>q) λ_ _ q=>q;rintro rfl;rcases hc with rfl|hc
  ·rw[hfree]at e;cases e
  ·rw[hfree]at hc;cases hc
 rcases hx with hk|hk
 ·refine wpAny_storeName_local hk hn (λh' hn' hs=>?_) hcls;obtain⟨oL,_,_,hoL,_⟩:=id hn;refine h _ #[I.ok,I.os,I.bare,#[λb o e n hb hx=>?_,λb o e n hb hx=>?_,I.base.free,λb o e hx=>?_,I.base.tups,I.base.frzs,I.base.tbls],#[_,hn',λj y v' e1 e2 e3=>?_],λy c e=>?_,I.free,I.freeC,λp hp=>?_,tracked #[oL,hoL,I.free] hs,by simpa using I.len] #[_,hs,.inl rfl]
  ·exact(hs.2 b (Bc (Bn (Aw e) I.ok.above))).trans (I.base.keep b o e n hb hx)
  ·obtain⟨sl,e1⟩:=I.base.slot b o e n hb hx;exact#[sl,(hs.2 b (Bc (Bn (Aw e) I.ok.above))).trans e1]
  ·obtain⟨o',e1⟩:=I.base.there b o e hx;exact#[o',(hs.2 b (Bc (Bn (Aw e) I.ok.above))).trans e1]
  ·by_cases hj:j=i
   ·subst hj;rw[hi]at e1;cases e1;rw[Hv hiσ]at e2;cases e2;exact#[u,r,.inl #[hk,by simp]]
   ·rw[El (Dc hj)]at e2;obtain⟨u',r',q⟩:=hl j y v' e1 e2 e3;refine#[u',r',?_];rcases q with ⟨k,e⟩|⟨k,c,e,z⟩
    ·refine .inl #[k,?_];have:y≠x:=λe=>hj (aGt hN e1 (e▸hi));simp[this,e]
    ·exact .inr #[k,c,e,z.sameBut hs (cne y c e)]
  ·obtain⟨w',z⟩:=I.cell y c e;exact#[w',z.sameBut hs (cne y c e)]
  ·obtain⟨e,n,ne,nf,d⟩:=I.pin p hp;exact#[(hs.2 p.1 ne).trans e,n,ne,nf,d]
 ·have hfn:X.fn x=true:=by
   rcases hf with z|z
   ·exact z
   ·rw[z]at hk;cases hk
  obtain⟨c,hc⟩:=I.ok.has x (.inl hk);obtain⟨w',z⟩:=I.cell x c hc;refine wpAny_storeName_cell I.ok.kind hk hc z (λh' hc' hs=>?_);obtain⟨oc,hoc,hocd⟩:=id z;refine h {s with heap:=h'} #[I.ok,I.os,I.bare,#[λb o e n hb hx=>?_,λb o e n hb hx=>?_,I.base.free,λb o e hx=>?_,I.base.tups,I.base.frzs,I.base.tbls],#[m,hn.sameBut hs (Dc (cne x c hc)),λj y v' e1 e2 e3=>?_],λy c' e=>?_,I.free,I.freeC,λp hp=>?_,tracked #[oc,hoc,I.freeC x c hc] hs,by simpa using I.len] #[c,hs,.inr hc]
  ·exact(hs.2 b (Bc (Bn (Aw e) (I.ok.cab x c hfn hc)))).trans (I.base.keep b o e n hb hx)
  ·obtain⟨sl,e1⟩:=I.base.slot b o e n hb hx;exact#[sl,(hs.2 b (Bc (Bn (Aw e) (I.ok.cab x c hfn hc)))).trans e1]
  ·obtain⟨o',e1⟩:=I.base.there b o e hx;exact#[o',(hs.2 b (Bc (Bn (Aw e) (I.ok.cab x c hfn hc)))).trans e1]
  ·by_cases hj:j=i
   ·subst hj;rw[hi]at e1;cases e1;rw[Hv hiσ]at e2;cases e2;exact#[u,r,.inr #[.inl hk,c,hc,hc']]
   ·rw[El (Dc hj)]at e2;obtain⟨u',r',q⟩:=hl j y v' e1 e2 e3;refine#[u',r',?_];rcases q with q|⟨k,c',e,z'⟩
    ·exact .inl q
    ·refine .inr #[k,c',e,z'.sameBut hs ?_];rintro rfl;exact hj (aGt hN e1 (I.ok.inj _ _ _ e hc▸hi))
  ·by_cases hcc:c'=c
   ·subst hcc;exact#[_,hc']
   ·obtain⟨w2,z2⟩:=I.cell y c' e;exact#[w2,z2.sameBut hs hcc]
  ·obtain⟨e,n,ne,nf,d⟩:=I.pin p hp;refine#[(hs.2 p.1 ?_).trans e,n,ne,nf,d];intro q;rw[q,hoc]at e;have q':oc=p.2:=Bs e;exact d w' (by rw[<-q'];exact hocd)
def aHg{x:Str}{Q:Unit->Shared->Prop}(I:#v[3])(hN:X.N.Nodup)(hi:X.N[i]? =some x)(hx:Loc X.env.scope x)(r:RelV v u)
  (h:∀s',Inv X aa (σ.set i (some v)) H s'->Q () s') (hf:FL X x:=by trivial):Bb M A (storeName X.env x u) Q E s:=
 yF I hN hi hx r (λs' I' _=>h s' I') hf
def Inv.call'(I:#v[3])(ho:s'.os=s.os)(u:Un (frs X.stack) ch H H' s.heap s'.heap)(hok:HOk X.prog X.w H' s'.heap)(hg:Pn s'.gens)
  (hch:#v[o]):Inv X aa σ H' s':=by
 obtain⟨h',g',d',t',o'⟩:=s';have e:o'=s.os:=ho;subst e;exact I.call (g':=g') (t':=t') (d':=d') u hok hg hch
abbrev XK:=Value->Option Addr->Hp->Prop
abbrev St:=List (Option V)
abbrev VK:=V->Hp->Prop
abbrev TE:=St->Hp->VK->Prop
abbrev TT:=St->Hp->(Bool->Hp->Prop)->Prop
abbrev TA:=St->Hp->(List V->Hp->Prop)->Prop
structure Ends where
 nx:St->Hp->Prop
 rt:VK
 bk:St->Hp->Prop:=λ_ _=>False
 ct:St->Hp->Prop:=λ_ _=>False
abbrev TS:=Ends->St->Hp->Prop
inductive IEP(X:Cx)(aa:#v[6])(σ:St)(Q:VK)(u:Value)(s':Shared):Prop
 |mk (v H':_) (q0_:Inv X aa σ H' s') (q1_:RelV v u) (q2_:Q v H'):IEP X aa σ Q u s'
def EP(X:Cx)(aa:#v[6])(σ:St)(Q:VK)(u:Value)(s':Shared):Prop:=IEP X aa σ Q u s'
def TP(X:Cx)(aa:#v[6])(σ:St)(Q:Bool->Hp->Prop)(b:Bool)(s':Shared):Prop:=∃H',Inv X aa σ H' s'/\Q b H'
inductive IAP(X:Cx)(aa:#v[6])(σ:St)(Q:List V->Hp->Prop)(us:List Value)(s':Shared):Prop
 |mk (vs H':_) (q0_:Inv X aa σ H' s') (q1_:Vals vs us) (q2_:Q vs H'):IAP X aa σ Q us s'
def AP(X:Cx)(aa:#v[6])(σ:St)(Q:List V->Hp->Prop)(us:List Value)(s':Shared):Prop:=IAP X aa σ Q us s'
def SP(X:Cx)(aa:#v[6])(D:Ends)(f:Flow)(s':Shared):Prop:=
 match f with
 |.next=>∃σ' H',Inv X aa σ' H' s'/\D.nx σ' H'
 |.brk=>∃σ' H',Inv X aa σ' H' s'/\D.bk σ' H'
 |.cont=>∃σ' H',Inv X aa σ' H' s'/\D.ct σ' H'
 |.ret u=>∃v σ' H',Inv X aa σ' H' s'/\RelV v u/\D.rt v H'
def PE(X:Cx)(e:Cr)(t:TE):Prop:=
 ∀(aa:#v[6])(s:Shared)(σ:St)(H:Hp)(Q:VK),#v[3]->t σ H Q->Bb #v[a] X.A (eval e X.env) (EP X aa σ Q) X.xe s
def PT(X:Cx)(e:Cr)(t:TT):Prop:=
 ∀(aa:#v[6])(s:Shared)(σ:St)(H:Hp)(Q:Bool->Hp->Prop),#v[3]->t σ H Q->Bb #v[a] X.A (Yo e X.env (eval e X.env)) (TP X aa σ Q) X.xe s
def PW(X:Cx)(e:Cr)(t:TT):Prop:=
 ∀(whole:Sem Value)(aa:#v[6])(s:Shared)(σ:St)(H:Hp)(Q:Bool->Hp->Prop),#v[3]->t σ H Q->Bb #v[a] X.A (Yo e X.env whole) (TP X aa σ Q) X.xe s
def PW.pt{X:Cx}{e:Cr}(h:PW X e t):PT X e t:=h _
def PA(X:Cx)(es:List Cr)(t:TA):Prop:=
 ∀(pos:Pos)(aa:#v[6])(s:Shared)(σ:St)(H:Hp)(Q:List V->Hp->Prop),#v[3]->t σ H Q->Bb #v[a] X.A (spliced (Np pos (Ca es X.env))) (AP X aa σ Q) X.xe s
def PS(X:Cx)(st:Stmt)(t:TS):Prop:=
 ∀(aa:#v[6])(s:Shared)(σ:St)(H:Hp)(D:Ends),#v[3]->t D σ H->Bb #v[a] X.A (exec st X.env) (SP X aa D) X.xe s
def PSs(X:Cx)(st:List Stmt)(t:TS):Prop:=
 ∀(aa:#v[6])(s:Shared)(σ:St)(H:Hp)(D:Ends),#v[3]->t D σ H->Bb #v[a] X.A (execs st X.env) (SP X aa D) X.xe s
def thn{α:Type}{t:Sem α}{Q Q':α->Shared->Prop}{M:Model}{A:Cm}{s:Shared}(h:Bb M A t Q E s)(hQ:∀a s,Q a s->Q' a s):Bb M A t Q' E s:=Gd h hQ λ_ _ x=>x
section
variable {X:Cx}
inductive aVj(i:Nat)(σ:St)(H:Hp)(Q:VK):Prop
 |mk (v:_) (q0_:σ[i]? =some (some v)) (q1_:Q v H):aVj i σ H Q
def bBm(i:Nat):TE:=λσ H Q=>aVj i σ H Q
def tC(v:V):TE:=λ_ H Q=>Q v H
def pF{x:Str}(hN:X.N[i]? =some x)(hv:Vis X.env.scope x)(hd:ND x:=by decide)(hcd:NC x:=by decide):PE X (.Name x pos) (bBm i):=by
 intro aa s σ H Q I h;obtain⟨v,e,h⟩:=h;obtain⟨m,hn,hl⟩:=I.loc;obtain⟨u,r,l⟩:=hl i x v hN e hv;have fin:EP X aa σ Q u s:=#[v,H,I,r,h];rcases l with ⟨hk,hm⟩|⟨hk,c,hc,hcell⟩
 ·exact Zv (wpAny_loadName_local I.ok.kind hk hn hm fin) hd
 ·rcases hk with hk|hk
  ·exact Zv (wpAny_loadName_cell I.ok.kind hk hc hcell fin) hd
  ·exact Zv (wpAny_loadName_free I.ok.kind hk hc hcell fin hcd) hd
def dW{i j pos}:PE X (.Constant (.int i) j pos) (tC (.int i)):=λ_ _ _ H _ I h=>wpAny_Constant_int #[.int i,H,I.tok _,#[_,rfl],h]
def bAu{b j pos}:PE X (.Constant (.bool b) j pos) (tC (.bl b)):=λ_ _ _ H _ I h=>Constant_bool #[.bl b,H,I,rfl,h]
def aXt{j pos}:PE X (.Constant .none j pos) (tC .non):=λ_ _ _ H _ I h=>Wc #[.non,H,I,rfl,h]
def aXw{x j pos}:PE X (.Constant (.str x) j pos) (tC (.str x)):=λ_ _ _ H _ I h=>Calls.Constant_str #[.str x,H,I.tok _,#[_,rfl],h]
def Gl(X:Cx)(x:Str):Prop:=X.env.kindOf x=some .globalImplicit
def aEd{aa:#v[6]}{s:Shared}{σ:St}{H:Hp}{x:Str}(I:#v[3])(hg:Gl X x)(hm:X.mg x=some u)(h:Q u s)
  (hd:ND x:=by decide):Bb #v[a] X.A (eval (.Name x pos) X.env) Q E s:=
 Qv I.ok.kind hg (Calls.loadGlobal_global (by rw[I.ok.glob];exact I.mod.glob.keeps I.bk) hm h) hd
def pB{aa:#v[6]}{s:Shared}{σ:St}{H:Hp}{x:Str}(I:#v[3])(hg:Gl X x)(hm:X.mg x=none)(hv:Fg x=some u)(h:Q u s)
  (hn:x≠"__name__":=by decide) (hd:ND x:=by decide):Bb #v[a] X.A (eval (.Name x pos) X.env) Q E s:=by
 obtain⟨mb,h1,h2⟩:=I.mod.blt;exact Qv I.ok.kind hg (Calls.loadGlobal_builtin (by rw[I.ok.glob];exact I.mod.glob.keeps I.bk) hm (by rw[I.ok.blt];exact h1.keeps I.bk) ((h2 x hn).trans hv) h) hd
def aTv{x:Str}(hg:Gl X x)(hm:X.mg x=some u)(r:RelV v u)(hd:ND x:=by decide):PE X (.Name x pos) (tC v):=
 λ_ _ _ H _ I h=>aEd I hg hm #[v,H,I,r,h] hd
def aK1{x:Str}(hg:Gl X x)(hm:X.mg x=none)(hv:Fg x=some u)(r:RelV v u)(hn:x≠"__name__":=by decide)(hd:ND x:=by decide):PE X (.Name x pos) (tC v):=
 λ_ _ _ H _ I h=>pB I hg hm hv #[v,H,I,r,h] hn hd
variable {a b:Cr}{ta tb:TE}{pos:Pos}
def PC(X:Cx)(op:Uu)(a b:Cr)(t:TE):Prop:=
 ∀(aa:#v[6])(s:Shared)(σ:St)(H:Hp)(Q:VK),#v[3]->t σ H Q->
  Bb #v[a] X.A (eval a X.env) (λv s₁=>Bb #v[a] X.A (eval b X.env) (λu s₂=>Bb #v[a] X.A (Ff op v u) (EP X aa σ Q) X.xe s₂) X.xe s₁) X.xe s
def aGs(b:Cr)(h:op≠.In)(h2:op≠.NotIn):Hd op b=false:=by
 have e1:(op==CmpOp.In)=false:=by cases op<;>first|rfl|exact Ab2 rfl h
 have e2:(op==Aar)=false:=by cases op<;>first|rfl|exact Ab2 rfl h2
 cases b<;>simp[Hd,e1,e2]
def bBh(ta:TE):TE:=λσ H Q=>ta σ H λx H1=>Q (.bl (decide (x=.non))) H1
def aWf(ta:TE):TE:=λσ H Q=>ta σ H λx H1=>Q (.bl (!decide (x=.non))) H1
def RelV.none_iff{x:V}(r:RelV x v):(v==Cb)=decide (x=.non):=by
 cases x with
 |non=>cases r;rfl
 |bl _=>cases r;rfl
 |int _=>obtain⟨t,rfl⟩:=r;rfl
 |str _=>obtain⟨t,rfl⟩:=r;rfl
 |byt _=>obtain⟨t,rfl⟩:=r;rfl
 |flt _=>obtain⟨t,rfl⟩:=r;rfl
 |ref _=>cases r;rfl
 |ty _=>cases r;rfl
def aXn{j pos'}(ha:PE X a ta):PC X .Is a (.Constant .none j pos') (bBh ta):=by
 intro aa s σ H Q I h;refine thn #v[r] λv s1 ⟨x,H1,I1,r1,q1⟩=>?_;exact Wc (is_none_gen #[.bl _,H1,I1,by rw[r1.none_iff];rfl,q1])
def aTp{j pos'}(ha:PE X a ta):PC X .IsNot a (.Constant .none j pos') (aWf ta):=by
 intro aa s σ H Q I h;refine thn #v[r] λv s1 ⟨x,H1,I1,r1,q1⟩=>?_;exact Wc (isnot_none_gen #[.bl _,H1,I1,by rw[r1.none_iff];rfl,q1])
inductive aZm(x:V)(H:Hp)(Q:Bool->Hp->Prop):Prop
 |mk (c:_) (q0_:x=.bl c) (q1_:Q c H):aZm x H Q
def rBl(x:V)(H:Hp)(Q:Bool->Hp->Prop):Prop:=aZm x H Q
def tB(t:TE):TT:=λσ H Q=>t σ H λx H1=>rBl x H1 Q
def aJl{op:Uu}{t:TE}(h:PC X op a b t)(h1:Hd op b=false:=by first|exact aGs _ ⋯ ⋯|rfl):PT X (.Compare a [op] [b] pos) (tB t):=by
 intro aa s σ H Q I hw;refine Wr (thn (h aa s σ H _ I hw) λv s1 h1=>thn h1 λu s2 h2=>thn h2 λc s3 ⟨x,H1,I1,r1,q1⟩=>?_) h1;obtain⟨d,rfl,q⟩:=q1;cases r1;exact Ec #[H1,I1,q]
def aX4{e:Cr}{t:TE}(h:PE X e t)(he:∀whole,Yo e X.env whole=(do let v<-whole;Ph e.pos;holding [v] (truthy v)):=by intro _;rfl):PT X e (tB t):=by
 intro aa s σ H Q I hw;refine isTrue_plain (thn (h aa s σ H _ I hw) λv s1 ⟨x,H1,I1,r1,q1⟩=>?_) (he _);obtain⟨d,rfl,q⟩:=q1;cases r1;exact Ec #[H1,I1,q]
variable {tA tB':TT}{rest:List Cr}
def bC0(t u:TT):TT:=λσ H Q=>t σ H λc H1=>if c=true then u σ H1 Q else Q false H1
def tOr(t u:TT):TT:=λσ H Q=>t σ H λc H1=>if c=true then Q true H1 else u σ H1 Q
def bC6(t:TT):TT:=λσ H Q=>t σ H λc H1=>Q (!c) H1
def aT5(ha:PT X a tA):PW X (.BoolOp .And [a] pos) tA:=by
 intro wh aa s σ H Q I h;refine isTrue_and (thn (ha aa s σ H Q I h) λc s1 e=>?_);cases c with
 |true=>exact isTrue_and_nil e
 |false=>exact e
def aX6(ha:PT X a tA):PW X (.BoolOp .Or [a] pos) tA:=by
 intro wh aa s σ H Q I h;refine isTrue_or (thn (ha aa s σ H Q I h) λc s1 e=>?_);cases c with
 |false=>exact isTrue_or_nil e
 |true=>exact e
def aX5(ha:PT X a tA)(hb:PW X (.BoolOp .And (b::rest) pos) tB'):PW X (.BoolOp .And (a::b::rest) pos) (bC0 tA tB'):=by
 intro wh aa s σ H Q I h;refine isTrue_and (thn #v[r] λc s1 ⟨H1,I1,q1⟩=>?_);cases c with
 |true=>exact hb wh aa s1 σ H1 Q I1 q1
 |false=>exact#[H1,I1,q1]
def bAz(ha:PT X a tA)(hb:PW X (.BoolOp .Or (b::rest) pos) tB'):PW X (.BoolOp .Or (a::b::rest) pos) (tOr tA tB'):=by
 intro wh aa s σ H Q I h;refine isTrue_or (thn #v[r] λc s1 ⟨H1,I1,q1⟩=>?_);cases c with
 |true=>exact#[H1,I1,q1]
 |false=>exact hb wh aa s1 σ H1 Q I1 q1
def aX3(ha:PT X a tA):PT X (.UnaryOp .Not a pos) (bC6 tA):=by
 intro aa s σ H Q I h;exact isTrue_not (ha aa s σ H (λc H1=>Q (!c) H1) I h)
def bBe(ta tb:TE):TE:=λσ H Q=>ta σ H λx H1=>∃c,x=.bl c/\if c=true then tb σ H1 Q else Q (.bl false) H1
def bC7(ta tb:TE):TE:=λσ H Q=>ta σ H λx H1=>∃c,x=.bl c/\if c=true then Q (.bl true) H1 else tb σ H1 Q
def bBk(ta:TE):TE:=λσ H Q=>ta σ H λx H1=>∃c,x=.bl c/\Q (.bl (!c)) H1
def aXv{op}(h:PE X a t):PE X (.BoolOp op [a] pos) t:=λaa s σ H Q I hw=>BoolOp_one (h aa s σ H Q I hw)
def aXo(ha:PE X a ta)(hb:PE X (.BoolOp .And (b::rest) pos) tb):PE X (.BoolOp .And (a::b::rest) pos) (bBe ta tb):=by
 intro aa s σ H Q I h;refine BoolOp_and (thn #v[r] λv s1 ⟨x,H1,I1,r1,q1⟩=>?_);obtain⟨c,rfl,q1⟩:=q1;cases r1;refine Ec ?_;cases c with
 |true=>exact hb aa s1 σ H1 Q I1 q1
 |false=>exact#[.bl false,H1,I1,rfl,q1]
def bAw(ha:PE X a ta)(hb:PE X (.BoolOp .Or (b::rest) pos) tb):PE X (.BoolOp .Or (a::b::rest) pos) (bC7 ta tb):=by
 intro aa s σ H Q I h;refine BoolOp_or (thn #v[r] λv s1 ⟨x,H1,I1,r1,q1⟩=>?_);obtain⟨c,rfl,q1⟩:=q1;cases r1;refine Ec ?_;cases c with
 |false=>exact hb aa s1 σ H1 Q I1 q1
 |true=>exact#[.bl true,H1,I1,rfl,q1]
def aXu(ha:PE X a ta):PE X (.UnaryOp .Not a pos) (bBk ta):=by
 intro aa s σ H Q I h;refine UnaryOp_ (thn #v[r] λv s1 ⟨x,H1,I1,r1,q1⟩=>?_);obtain⟨c,rfl,q1⟩:=q1;cases r1;exact not_of (Ec #[.bl (!c),H1,I1,rfl,q1])
end
def SqL(K:Ad)(H:Hp)(a:Addr)(xs:List V):Prop:=
 Rd H a (.lst xs)∨
  ∃(o:Obj)(ab:Array Value)(n:Nat),K.lookup a=some o/\o.cls=.type "list"/\o.dict=none/\o.data=.seq ab n/\ab.size<=sizeLine/\Vals xs ab.toList
def SqT(K:Ad)(H:Hp)(a:Addr)(xs:List V):Prop:=
 Rd H a (.tup xs)∨
  ∃(o:Obj)(ab:Array Value)(n:Nat),K.lookup a=some o/\o.cls=.type "tuple"/\o.data=.seq ab n/\ab.size<=sizeLine/\Vals xs ab.toList
def bCj:Value->Option V
 |.none=>some .non
 |.bool b=>some (.bl b)
 |.int i _=>some (.int i)
 |.str x _=>some (.str x)
 |.bytes b _=>some (.byt b)
 |.float b _=>some (.flt b)
 |.ref a=>some (.ref a)
 |.type n=>some (.ty n)
 |_=>none
def RelV.abs{x:V}(r:RelV x u):bCj u=some x:=by
 cases x with
 |non=>cases r;rfl
 |bl _=>cases r;rfl
 |int _=>obtain⟨t,rfl⟩:=r;rfl
 |str _=>obtain⟨t,rfl⟩:=r;rfl
 |byt _=>obtain⟨t,rfl⟩:=r;rfl
 |flt _=>obtain⟨t,rfl⟩:=r;rfl
 |ref _=>cases r;rfl
 |ty _=>cases r;rfl
def RelV.inj{x y:V}(r:RelV x u)(q:RelV y u):x=y:=Bs (r.abs.symm.trans q.abs)
def Vals.inj:∀{xs ys:List V}{us:List Value},Vals xs us->Vals ys us->xs=ys
 |_,_,_,.nil,.nil=>rfl
 |_,_,_,.cons r t,.cons r' t'=>by rw[r.inj r',Vals.inj t t']
section
variable {X:Cx}{aa:#v[6]}{σ:St}{H:Hp}{s:Shared}{a:Addr}{xs ys:List V}
def SqL.of{K:Ad}(h:H a=some (.lst xs)):SqL K H a xs:=.inl (.inl h)
def SqT.of{K:Ad}(h:H a=some (.tup xs)):SqT K H a xs:=.inl (.inl h)
def Inv.list(I:#v[3])(h:SqL X.K H a xs):∃ab:List Value,Vals xs ab/\PlainL s.heap a ab.toArray/\xs.length<=sizeLine:=by
 rcases h with h|⟨o,ab,n,hk,hc,hd,hs,hz,r⟩
 ·obtain⟨z,ab,n,r,e⟩:=h.ok I.hok;exact#[ab,r,#[_,n,e,rfl,rfl,rfl],z]
 ·refine#[ab.toList,r,#[o,n,I.kIn a o hk,hc,hd,by simpa using hs],?_];have e:=r.length;simp only[Az]at e
  lia
def Inv.tuple(I:#v[3])(h:SqT X.K H a xs):∃ab:List Value,Vals xs ab/\IsTup s.heap a ab.toArray/\xs.length<=sizeLine:=by
 rcases h with h|⟨o,ab,n,hk,hc,hs,hz,r⟩
 ·obtain⟨z,ab,r,p⟩:=h.ok I.hok;exact#[ab,r,p,z]
 ·refine#[ab.toList,r,#[o,I.kIn a o hk,hc,n,by simpa using hs],?_];have e:=r.length;simp only[Az]at e
  lia
def Inv.list_inj(I:#v[3])(h:SqL X.K H a xs)(h':SqL X.K H a ys):xs=ys:=by
 obtain⟨ab,r,⟨o,n,e,_,_,d⟩,_⟩:=I.list h;obtain⟨its',r',⟨o',n',e',_,_,d'⟩,_⟩:=I.list h';rw[e]at e';cases e';rw[d]at d';injection d' with d1 _
 have:ab=its':=by simpa using Ab9 Zs d1
 subst this;exact r.inj r'
def Inv.tuple_inj(I:#v[3])(h:SqT X.K H a xs)(h':SqT X.K H a ys):xs=ys:=by
 obtain⟨ab,r,⟨o,e,_,n,d⟩,_⟩:=I.tuple h;obtain⟨its',r',⟨o',e',_,n',d'⟩,_⟩:=I.tuple h';rw[e]at e';cases e';rw[d]at d';injection d' with d1 _
 have:ab=its':=by simpa using Ab9 Zs d1
 subst this;exact r.inj r'
end
abbrev Cx.wish(X:Cx)(E:#v[5]):Cx:={X with xe:=E}
abbrev Cx.nox(X:Cx):Cx:=X.wish λ_ _=>False
def Cx.Ok.wish{X:Cx}(ok:X.Ok)(E:#v[5]):(X.wish E).Ok:=
 #[ok.mod,ok.kind,ok.glob,ok.blt,ok.above,ok.inj,ok.has,ok.cab,ok.hd,ok.frames,ok.stk,ok.exf,ok.bs,ok.bsz,ok.noex,ok.exfs,ok.funs,ok.frf]
def Cx.Ok.unwish{X:Cx}(ok:(X.wish E).Ok):X.Ok:=
 #[ok.mod,ok.kind,ok.glob,ok.blt,ok.above,ok.inj,ok.has,ok.cab,ok.hd,ok.frames,ok.stk,ok.exf,ok.bs,ok.bsz,ok.noex,ok.exfs,ok.funs,ok.frf]
section
variable {X:Cx}{aa:#v[6]}{σ:St}{H:Hp}{s:Shared}{E:#v[5]}
def Inv.wish(I:#v[3])(E:#v[5]):Inv (X.wish E) aa σ H s:=#[I.ok.wish E,I.os,I.bare,I.base,I.loc,I.cell,I.free,I.freeC,I.pin,I.hok,I.len]
def Inv.unwish(I:Inv (X.wish E) aa σ H s):#v[3]:=#[I.ok.unwish,I.os,I.bare,I.base,I.loc,I.cell,I.free,I.freeC,I.pin,I.hok,I.len]
def SP.unwish(h:SP (X.wish E) aa D f s'):SP X aa D f s':=by
 cases f with
 |next=>obtain⟨σ',H',I,q⟩:=h;exact#[σ',H',I.unwish,q]
 |brk=>obtain⟨σ',H',I,q⟩:=h;exact#[σ',H',I.unwish,q]
 |cont=>obtain⟨σ',H',I,q⟩:=h;exact#[σ',H',I.unwish,q]
 |ret u=>obtain⟨v,σ',H',I,r,q⟩:=h;exact#[v,σ',H',I.unwish,r,q]
def PSs.nox{st:List Stmt}{t:TS}(h:PSs X.nox st t):PSs X st t:=λaa s σ H D I hw=>
 Gd (h aa s σ H D (I.wish _) hw) (λ_ _ q=>q.unwish) λ_ _ z=>Hg z
end
section
variable {X:Cx}{st:Stmt}{rest:List Stmt}{t u:TS}{e:Cr}{te:TE}{pos:Pos}
def bBj:TS:=λD σ H=>D.nx σ H
def bC9(t u:TS):TS:=λD σ H=>t {D with nx:=u D} σ H
def gK:PSs X [] bBj:=λ_ _ σ H _ I h=>Oe #[σ,H,I,h]
def bB(h1:PS X st t)(h2:PSs X rest u):PSs X (st::rest) (bC9 t u):=by
 intro aa s σ H D I h;refine Aav (thn (h1 aa s σ H {D with nx:=u D} I h) λf s1 q=>?_);cases f with
 |next=>
  obtain⟨σ',H',I',q⟩:=q;exact h2 aa s1 σ' H' D I' q
 |ret v=>exact q
 |brk=>exact q
 |cont=>exact q
def cV(h1:PS X st t):PSs X [st] t:=by
 intro aa s σ H D I h;refine Aav (thn (h1 aa s σ H D I h) λf s1 q=>?_);cases f with
 |next=>exact Oe q
 |ret v=>exact q
 |brk=>exact q
 |cont=>exact q
def Inv.quiet{aa:#v[6]}{σ:St}{H:Hp}{s:Shared}(I:#v[3]):interactive X.env=false:=by simp[interactive,I.ok.kind]
def bBg(te:TE):TS:=λD σ H=>te σ H λ_ H1=>D.nx σ H1
def qR(he:PE X e te)(hs:Fe e none pos.line X.env=pure false:=by rfl):PS X (.Expr e pos) (bBg te):=by
 intro aa s σ H D I h;exact wpAny_Expr_any (thn (he aa s σ H _ I h) λv s1 ⟨x,H1,I1,r1,q1⟩=>#[σ,H1,I1,q1]) I.quiet hs
def bC8(te:TE):TS:=λD σ H=>te σ H D.rt
def xV(he:PE X e te):PS X (.Return (some e) pos) (bC8 te):=by
 intro aa s σ H D I h;exact wpAny_Return_some (thn (he aa s σ H _ I h) λv s1 ⟨x,H1,I1,r1,q1⟩=>#[x,σ,H1,I1,r1,q1])
def bC5(c:TT)(t u:TS):TS:=λD σ H=>c σ H λb H1=>if b=true then t D σ H1 else u D σ H1
def qC{c:Cr}{a b:List Stmt}{tc:TT}(hc:PT X c tc)(ha:PSs X a t)(hb:PSs X b u):PS X (.If c a b pos) (bC5 tc t u):=by
 intro aa s σ H D I h;refine wpAny_If (thn (hc aa s σ H _ I h) λd s1 ⟨H1,I1,q1⟩=>?_);cases d with
 |true=>exact ha aa s1 σ H1 D I1 q1
 |false=>exact hb aa s1 σ H1 D I1 q1
def aYl:TS:=λ_ _ _=>False
def fZ:PS X st aYl:=λ_ _ _ _ _ _ h=>h.elim
end
abbrev TG:=V->St->Hp->(St->Hp->Prop)->Prop
abbrev TGs:=List V->St->Hp->(St->Hp->Prop)->Prop
def PG(X:Cx)(target:Cr)(t:TG):Prop:=
 ∀(aa:#v[6])(s:Shared)(σ:St)(H:Hp)(v:V)(u:Value)(Q:St->Hp->Prop),#v[3]->RelV v u->t v σ H Q->
  Bb #v[a] X.A (assign target X.env u) (λ_ s'=>∃σ' H',Inv X aa σ' H' s'/\Q σ' H') X.xe s
def PGs(X:Cx)(ts:List Cr)(t:TGs):Prop:=
 ∀(aa:#v[6])(s:Shared)(σ:St)(H:Hp)(vs:List V)(us:List Value)(Q:St->Hp->Prop),#v[3]->Vals vs us->t vs σ H Q->
  Bb #v[a] X.A (assignInOrder ((Ib ts X.env).map (·.2)) us) (λ_ s'=>∃σ' H',Inv X aa σ' H' s'/\Q σ' H') X.xe s
abbrev aWq:=V->V->V->Hp->(Hp->Prop)->Prop
def aZr(X:Cx)(t:aWq):Prop:=
 ∀(aa:#v[6])(s:Shared)(σ:St)(H:Hp)(o i v:V)(ov iv u:Value)(Q:Hp->Prop),#v[3]->RelV o ov->RelV i iv->RelV v u->t o i v H Q->
  Bb #v[a] X.A (Abm ov iv u) (λ_ s'=>∃H',Inv X aa σ H' s'/\Q H') X.xe s
variable {pos:Pos}
def pY(i:Nat):TG:=λv σ H Q=>Q (σ.set i (some v)) H
def aW{x:Str}(hN:X.N.Nodup)(hi:X.N[i]? =some x)(hx:Loc X.env.scope x)(hf:FL X x:=by trivial):PG X (.Name x pos) (pY i):=by
 intro aa s σ H v u Q I r h;exact Qw (aHg I hN hi hx r (λs' I'=>#[_,H,I',h]) hf)
def bAb:TGs:=λvs σ H Q=>vs=[]/\Q σ H
def aV1(t:TG)(u:TGs):TGs:=λvs σ H Q=>∃v r,vs=v::r/\t v σ H λσ' H'=>u r σ' H' Q
def tX:PGs X [] bAb:=by
 intro aa s σ H vs us Q I r h;obtain⟨e,h⟩:=h;subst e;cases r;exact assignInOrder_nil #[σ,H,I,h]
def fY{e:Cr}{es:List Cr}{t:TG}{u:TGs}(h1:PG X e t)(h2:PGs X es u)
  (hs:(Ib (e::es) X.env).map (·.2)=assign e X.env::(Ib es X.env).map (·.2):=by rfl):PGs X (e::es) (aV1 t u):=by
 intro aa s σ H vs us Q I r h;obtain⟨v,vr,e1,h⟩:=h;subst e1;cases r with
 |cons r rr=>
  rw[hs];refine assignInOrder_cons (thn (h1 aa s σ H _ _ _ I r h) λ_ s1 ⟨σ1,H1,I1,q1⟩=>?_);exact h2 aa s1 σ1 H1 _ _ Q I1 rr q1
inductive aU5(K:Ad)(n:Nat)(t:TGs)(v:V)(σ:St)(H:Hp)(Q:(St->Hp->Prop)):Prop
 |mk (a xs:_) (q0_:v=.ref a) (q1_:SqT K H a xs) (q2_:xs.length=n) (q3_:t xs σ H Q):aU5 K n t v σ H Q
def bAe(K:Ad)(n:Nat)(t:TGs):TG:=λv σ H Q=>aU5 K n t v σ H Q
def xR(hc:X.calm=true)(h:PGs X es t)
  (hn:(Ib es X.env).length=n:=by rfl) (hst:(Ib es X.env).findIdx? (·.1)=none:=by rfl):PG X (.Tuple es k pos) (bAe X.K n t):=by
 intro aa s σ H v u Q I r hw;obtain⟨a,xs,e1,hq,hl,hw⟩:=hw;subst e1;cases r;obtain⟨ab,rv,ht,hz⟩:=I.tuple hq;refine assign_Tuple_tuple (I.ok.hd hc) ht (by simp[hn, <-hl,rv.length]) hst λh' hx=>?_;have I1:Inv X aa σ H {s with heap:=h'}:=I.kept (t':=s.toks) λb o e=>hx b o (Bc (Aw e)) e;exact h aa _ σ H xs _ Q I1 (by simpa using rv) hw
def bCn(to ti:TE)(t:aWq):TG:=λv σ H Q=>to σ H λo H1=>ti σ H1 λi H2=>t o i v H2 λH3=>Q σ H3
def aJg{o i:Cr}{to ti:TE}{t:aWq}(ho:PE X o to)(hi:PE X i ti)(hs:aZr X t)
  (ha:∀v,assign (.Subscript o i pos) X.env v=(do
   let ov<-holding [v] (eval o X.env)
   let iv<-holding [v,ov] (eval i X.env)
   Ph pos
   holding [v,ov,iv] (Abm ov iv v)
   release [v,ov,iv] []):=by intro _;rfl):PG X (.Subscript o i pos) (bCn to ti t):=by
 intro aa s σ H v u Q I r h
 rw[ha]
 refine Aa (Ce (thn (ho aa s σ H _ I h) λov s1 ⟨x,H1,I1,r1,q1⟩=>?_))
 refine Aa (Ce (thn (hi aa s1 σ H1 _ I1 q1) λiv s2 ⟨y,H2,I2,r2,q2⟩=>?_))
 refine Aa (Nb (Aa (Ce (thn (hs aa s2 σ H2 x y v ov iv u _ I2 r1 r2 r q2) λ_ s3 ⟨H3,I3,q3⟩=>?_))))
 exact wpAny_release #[σ,H3,I3,q3]
def aHj(te:TE)(g:TG):TS:=λD σ H=>te σ H λx H1=>g x σ H1 D.nx
def aEq{tg e:Cr}{te:TE}{g:TG}(he:PE X e te)(hg:PG X tg g)(hs:Vn [tg] e pos.line X.env=pure false:=by rfl)(hw:Vo [tg] e X.env=pure none:=by rfl)
  (h1:(Ib [tg] X.env).map (·.2)=[assign tg X.env]:=by rfl):PS X (.Assign [tg] e pos) (aHj te g):=by
 intro aa s σ H D I h;refine wpAny_Assign_stores (thn (he aa s σ H _ I h) λv s1 ⟨x,H1,I1,r1,q1⟩=>?_) hs hw;rw[h1];exact thn (hg aa s1 σ H1 x v _ I1 r1 q1) λ_ s2 q=>q
def aBb{x:Str}{e:Cr}{te:TE}{pos':Pos}(hN:X.N.Nodup)(hi:X.N[i]? =some x)(hx:Loc X.env.scope x)(he:PE X e te)(hs:Fe e (some (.Name x pos')) pos.line X.env=pure false:=by rfl)(hf:FL X x:=by trivial):
  PS X (.Assign [.Name x pos'] e pos) (aHj te (pY i)):=by
 intro aa s σ H D I h;refine wpAny_Assign_Name (thn (he aa s σ H _ I h) λv s1 ⟨y,H1,I1,r1,q1⟩=>?_) hs;exact aHg I1 hN hi hx r1 (λs2 I2=>#[_,H1,I2,q1]) hf
inductive aKc(c:TT)(tb:TS)(D:Ends)(σ:St)(H:Hp):Prop
 |mk (W:Nat->St->Hp->Prop) (q0_:(∃m,W m σ H)) (q1_:∀m σ H,W m σ H->c σ H λb H1=>if b=true then∃N:St->Hp->Prop,(∀σ' H',N σ' H'->∃m',m'<m/\W m' σ' H')/\tb {D with nx:=N,ct:=N,bk:=D.nx} σ H1 else D.nx σ H1):aKc c tb D σ H
def aYm(c:TT)(tb:TS):TS:=λD σ H=>aKc c tb D σ H
def aQv{c:Cr}{tc:TT}{tb:TS}(hp:Wz #v[a] X.A X.env X.xe)(hc:PT X c tc)(hb:PSs X body tb):PS X (.While c body [] pos) (aYm tc tb):=by
 intro aa s σ H D I h;obtain⟨W,⟨m0,w0⟩,turn⟩:=h;refine wpAny_While (codeAny_whileLoop (λn s'=>∃σ' H',Inv X aa σ' H' s'/\W n σ' H') ?_ m0 #[σ,H,I,w0]);rintro n s1 ⟨σ1,H1,I1,w1⟩;refine Jc hp (thn (hc aa s1 σ1 H1 _ I1 (turn n σ1 H1 w1)) λb s2 ⟨H2,I2,q2⟩=>?_);cases b with
 |true=>
  obtain⟨N,hN,q2⟩:=q2;rw[Ab1 rfl];refine Jc hp (thn (hb aa s2 σ1 H2 _ I2 q2) λf s3 q3=>?_);cases f with
  |next=>
   obtain⟨σ3,H3,I3,n3⟩:=q3;obtain⟨m',hm,w3⟩:=hN σ3 H3 n3;exact#[m',hm,σ3,H3,I3,w3]
  |cont=>
   obtain⟨σ3,H3,I3,n3⟩:=q3;obtain⟨m',hm,w3⟩:=hN σ3 H3 n3;exact#[m',hm,σ3,H3,I3,w3]
  |brk=>exact q3
  |ret v=>exact q3
 |false=>
  rw[Ab0 Ar];exact Oe #[σ1,H2,I2,q2]
structure It where
 go:Nat->Hp->Prop
 yld:Nat->Hp->V->Hp->Prop
 stop:Nat->Hp->Prop
def aDh(X:Cx)(aa:#v[6])(H:Hp)(b:Addr):Prop:=
 H b=none/\b≠X.env.locals/\b∉X.fs/\(b∈X.ex∨X.s₀.heap.objs.size<=b)/\(∀x c,X.env.cells.lookup x=some c->c≠b)/\∀p∈X.pn++aa,p.1≠b
def Inv.fpOk{X:Cx}{aa:#v[6]}{σ:St}{H H':Hp}{s:Shared}(I:#v[3])(hb:#v[0]<=b)(hn:H' b=none):aDh X aa H' b:=by
 refine#[hn,Gm (Bn I.lt hb),I.nofs hb,.inr (Dd I.sz hb),λx c e z=>?_,λp hp z=>?_]
 ·obtain⟨v,q⟩:=I.cell x c e;exact Ab2 (Bn q.lt (by rw[z];exact hb)) (Ej _)
 ·exact Ab2 (Bn (Aw (I.pin p hp).1) (by rw[z];exact hb)) (Ej _)
structure Turn(P:An)(w:Bh)(K:Ad)(tg:Cr)(J:It)(fp:List Addr)(it:Addr)(tn:Nat->Heap->Prop):Prop where
 mem:it∈fp
 obj:∀i h,tn i h->∀b∈fp,∃o,h.get? b=some o/\∀v,o.data≠.cell v
 keep:∀i h h',tn i h->(∀b∈fp,∀o,h.get? b=some o->h'.get? b=some o)->tn i h'
 item:∀(X:Cx),X.prog=P->X.w=w->X.K=K->X.calm=true->∀(i:Nat)(aa:#v[6])(s:Shared)(σ:St)(H:Hp)(E:#v[5]),#v[3]->(∀b∈fp,aDh X aa H b)->tn i s.heap->J.go i H->
  Bb (model P w) X.A (Gv (.ref it)) (λr s1=>∃u,r=some u/\
   Bb (model P w) X.A (Oh tg (.ref it) u) (λ_ s2=>∃x H',Inv X aa σ H' s2/\RelV x u/\J.yld i H x H'/\tn (i+1) s2.heap/\∀b∈fp,H' b=none) E s1) E s
 done:∀(X:Cx),X.prog=P->X.w=w->X.K=K->X.calm=true->∀(i:Nat)(aa:#v[6])(s:Shared)(σ:St)(H:Hp)(E:#v[5]),#v[3]->(∀b∈fp,aDh X aa H b)->tn i s.heap->J.stop i H->
  Bb (model P w) X.A (Gv (.ref it)) (λr s1=>r=none/\Inv X aa σ H s1) E s
 self:∀(A:Cm)(i:Nat)(s:Shared)(Q:#v[5])(E:#v[5]),tn i s.heap->Q (.ref it) s->Bb (model P w) A (Uy (.ref it)) Q E s
abbrev TI:=St->Hp->(It->Hp->Prop)->Prop
def PIE(X:Cx)(aa:#v[6])(σ:St)(tg:Cr)(R:It->Hp->Prop)(itv:Value)(s2:Shared):Prop:=
 ∃(it:Addr)(fp:List Addr)(tn:Nat->Heap->Prop)(J:It)(H':Hp),itv=.ref it/\Inv X aa σ H' s2/\Turn X.prog X.w X.K tg J fp it tn/\tn 0 s2.heap/\(∀b∈fp,aDh X aa H' b)/\R J H'
def PI(X:Cx)(tg iter:Cr)(wi:TI):Prop:=
 ∀(aa:#v[6])(s:Shared)(σ:St)(H:Hp)(R:It->Hp->Prop),#v[3]->wi σ H R->
  Bb #v[a] X.A (eval iter X.env) (λv s1=>Bb #v[a] X.A (Uy v) (PIE X aa σ tg R) X.xe s1) X.xe s
def aKv {s : Shared} {o : Obj} {Q : Unit → Shared → Prop} (ho : s.heap.get? it = some o) (hc : o.cls = .type n) (hd : o.data = .fields vs)
    (hn : ["enumerate", "zip", "dict_itemiterator", "dict_reverseitemiterator", "odict_iterator", "itertools.zip_longest", "itertools.pairwise"].contains n = false) (hQ : Q () s) : Bb M A (Oh tg (.ref it) u) Q E s := by
  unfold Oh
  cases tg <;> first
    | exact Ac hQ
    | (cases u <;> first
        | exact Ac hQ
        | (refine Aa (wpAny_load ho ?_)
           rw [hc, hd]
           show Bb M A (if (["enumerate", "zip", "dict_itemiterator", "dict_reverseitemiterator", "odict_iterator", "itertools.zip_longest", "itertools.pairwise"].contains n && vs[0]? == some (Ka _)) = true then _ else _) Q E s
           rw [Ab0 (by intro h; rw [hn, Lo] at h; cases h)]
           exact Ac hQ))
def Itl(K:Ad)(a:Addr):It:=
 #[λi H=>∃xs x,SqL K H a xs/\xs[i]? =some x,λi H x H'=>H'=H/\∀xs,SqL K H a xs->xs[i]? =some x,λi H=>∃xs,SqL K H a xs/\xs.length<=i]
def Itt(K:Ad)(a:Addr):It:=
 #[λi H=>∃xs x,SqT K H a xs/\xs[i]? =some x,λi H x H'=>H'=H/\∀xs,SqT K H a xs->xs[i]? =some x,λi H=>∃xs,SqT K H a xs/\xs.length<=i]
def Itr(lo:Int)(n:Nat):It:=#[λi _=>i<n,λi H x H'=>H'=H/\x=.int (lo+i),λi _=>n<=i]
def aNf{P:An}{w:Bh}{K:Ad}{tg:Cr}(a it:Addr):Turn P w K tg (Itl K a) [it] it (λi h=>h.IsListIter it a i) where
 mem:=by simp
 obj:=λi h st b hb=>by
  have e:b=it:=by simpa using hb
  subst e;obtain⟨o,e,c,d⟩:=st;exact#[o,e,λv z=>by rw[d]at z;cases z]
 keep:=λi h h' st k=>st.at λo e=>k it (by simp) o e
 item:=by
  intro X hP hw hK hc i aa s σ H E I hf st hg;subst hP hw hK;obtain⟨xs,x,hq,hx⟩:=hg;obtain⟨ab,rv,p,hz⟩:=I.list hq;obtain⟨u,hu,ru⟩:=rv.get hx;obtain⟨f0,f1,f2,f3,f4,f5⟩:=hf it (by simp);refine wpAny_pyNext_list_item st p.isList (x:=u) (by simpa using hu) λh' st' sb=>?_;have I1:Inv X aa σ H {s with heap:=h'}:=I.turned (t':=s.toks) (λb o hb e=>(sb.2 b hb).trans e) f0 f1 f3 f4 f5;obtain⟨o,e,c,d⟩:=id st';exact#[u,rfl,aKv (s:={s with heap:=h'}) e c d ⋯ #[x,H,I1,ru,#[rfl,λys hy=>by rw[I.list_inj hy hq];exact hx],st',λb hb=>(hf b hb).1]]
 done:=by
  intro X hP hw hK hc i aa s σ H E I hf st hg;subst hP hw hK;obtain⟨xs,hq,hx⟩:=hg;obtain⟨ab,rv,p,hz⟩:=I.list hq;obtain⟨f0,f1,f2,f3,f4,f5⟩:=hf it (by simp);have hl:=rv.length;exact wpAny_pyNext_list_end (I.ok.hd hc) st p.isList (by simp;lia) λh' eb=>#[rfl,I.turned (t':=s.toks) (λb o hb e=>eb b o hb e) f0 f1 f3 f4 f5]
 self:=λ_ _ _ _ _ st h=>wpAny_pyIter_listiter st h
def aJz{P:An}{w:Bh}{K:Ad}{tg:Cr}(a it:Addr):Turn P w K tg (Itt K a) [it] it (λi h=>h.IsTupleIter it a i) where
 mem:=by simp
 obj:=λi h st b hb=>by
  have e:b=it:=by simpa using hb
  subst e;obtain⟨o,e,c,d⟩:=st;exact#[o,e,λv z=>by rw[d]at z;cases z]
 keep:=λi h h' st k=>st.at λo e=>k it (by simp) o e
 item:=by
  intro X hP hw hK hc i aa s σ H E I hf st hg;subst hP hw hK;obtain⟨xs,x,hq,hx⟩:=hg;obtain⟨ab,rv,p,hz⟩:=I.tuple hq;obtain⟨u,hu,ru⟩:=rv.get hx;obtain⟨f0,f1,f2,f3,f4,f5⟩:=hf it (by simp);refine wpAny_pyNext_tuple_item st (show s.heap.IsTuple a ab.toArray from p) (x:=u) (by simpa using hu) λh' st' sb=>?_;have I1:Inv X aa σ H {s with heap:=h'}:=I.turned (t':=s.toks) (λb o hb e=>(sb.2 b hb).trans e) f0 f1 f3 f4 f5;obtain⟨o,e,c,d⟩:=id st';exact#[u,rfl,aKv (s:={s with heap:=h'}) e c d ⋯ #[x,H,I1,ru,#[rfl,λys hy=>by rw[I.tuple_inj hy hq];exact hx],st',λb hb=>(hf b hb).1]]
 done:=by
  intro X hP hw hK hc i aa s σ H E I hf st hg;subst hP hw hK;obtain⟨xs,hq,hx⟩:=hg;obtain⟨ab,rv,p,hz⟩:=I.tuple hq;obtain⟨f0,f1,f2,f3,f4,f5⟩:=hf it (by simp);have hl:=rv.length;exact wpAny_pyNext_tuple_end (I.ok.hd hc) st (show s.heap.IsTuple a ab.toArray from p) (by simp;lia) λh' eb=>#[rfl,I.turned (t':=s.toks) (λb o hb e=>eb b o hb e) f0 f1 f3 f4 f5]
 self:=λ_ _ _ _ _ st h=>wpAny_pyIter_tupleiter st h
def aJy{P:An}{w:Bh}{K:Ad}{tg:Cr}(it:Addr)(lo:Int)(n:Nat):Turn P w K tg (Itr lo n) [it] it (λi h=>IsRangeIter h it (lo+(i:Nat)*1) ((n:Int)-(i:Nat)) 1) where
 mem:=by simp
 obj:=λi h st b hb=>by
  have e:b=it:=by simpa using hb
  subst e;exact⟨_,st,λv z=>by
   have z':Vj _=Qu v:=z;cases z'⟩
 keep:=λi h h' st k=>k it (by simp) _ st
 item:=by
  intro X hP hw hK hc i aa s σ H E I hf st hg;subst hP hw hK;obtain⟨f0,f1,f2,f3,f4,f5⟩:=hf it (by simp);have W:=Walks.range (prog:=X.prog) (w:=X.w) (I.ok.hd hc) it lo 1 n;refine W.item i s _ _ hg st λv h' tk hv st' kk=>?_;obtain⟨t,rfl⟩:=hv;have I1:Inv X aa σ H {s with heap:=h',toks:=tk}:=I.turned (λb o hb e=>kk b o (by simpa using hb) e) f0 f1 f3 f4 f5;refine#[_,rfl,aKv (s:={s with heap:=h',toks:=tk}) (n:="range_iterator") st' rfl rfl ⋯ #[.int (lo+i),H,I1,#[t,?_],#[rfl,rfl],st',λb hb=>(hf b hb).1]];rw[Int.mul_one]
 done:=by
  intro X hP hw hK hc i aa s σ H E I hf st hg;subst hP hw hK;obtain⟨f0,f1,f2,f3,f4,f5⟩:=hf it (by simp);exact wpAny_pyNext_range_end (I.ok.hd hc) st (by have:n<=i:=hg;lia) λh' eb=>#[rfl,I.turned (t':=s.toks) (λb o hb e=>eb b o hb e) f0 f1 f3 f4 f5]
 self:=λ_ _ _ _ _ st h=>wpAny_pyIter_rangeiter st h
variable {tg:Cr}
inductive aVa(K:Ad)(x:V)(H1:Hp)(R:It->Hp->Prop):Prop
 |mk (a:_) (q0_:x=.ref a) (q1_:(∃xs,SqL K H1 a xs)) (q2_:R (Itl K a) H1):aVa K x H1 R
def bCv(K:Ad)(x:V)(H1:Hp)(R:It->Hp->Prop):Prop:=aVa K x H1 R
def bAg(K:Ad)(tl:TE):TI:=λσ H R=>tl σ H λx H1=>bCv K x H1 R
def bCp(K:Ad)(tl:TE):TI:=λσ H R=>tl σ H λx H1=>∃a,x=.ref a/\(∃xs,SqT K H1 a xs)/\R (Itt K a) H1
def aTy{l:Cr}{tl:TE}(hl:PE X l tl):PI X tg l (bAg X.K tl):=by
 intro aa s σ H R I h;refine thn (hl aa s σ H _ I h) λv s1 ⟨x,H1,I1,r1,q1⟩=>?_;obtain⟨a,e,⟨xs,hq⟩,q⟩:=q1;subst e;cases r1;obtain⟨ab,rv,p,hz⟩:=I1.list hq;refine Kn p.isList ?_;refine#[s1.heap.objs.size,[s1.heap.objs.size],_,_,H1,rfl,I1.kept (t':=s1.toks) λb o e=>Ae _ e,aNf a _,#[_,Au _ rfl,rfl,rfl],λb hb=>?_,q];have e:b=s1.heap.objs.size:=by simpa using hb
 subst e;exact I1.fpOk (Ak _) (I1.hok.fresh (Ak _))
def aXy{l:Cr}{tl:TE}(hl:PE X l tl):PI X tg l (bCp X.K tl):=by
 intro aa s σ H R I h;refine thn (hl aa s σ H _ I h) λv s1 ⟨x,H1,I1,r1,q1⟩=>?_;obtain⟨a,e,⟨xs,hq⟩,q⟩:=q1;subst e;cases r1;obtain⟨ab,rv,p,hz⟩:=I1.tuple hq;refine Yk (show s1.heap.IsTuple a ab.toArray from p) ?_;refine#[s1.heap.objs.size,[s1.heap.objs.size],_,_,H1,rfl,I1.kept (t':=s1.toks) λb o e=>Ae _ e,aJz a _,#[_,Au _ rfl,rfl,rfl],λb hb=>?_,q];have e:b=s1.heap.objs.size:=by simpa using hb
 subst e;exact I1.fpOk (Ak _) (I1.hok.fresh (Ak _))
def aG3{aa:#v[6]}{σ:St}{H:Hp}{s:Shared}{R:It->Hp->Prop}{lo hi:Int}{t u v:Tok}{tk:Nat}(I:#v[3])(h1: -(2 ^ 62)<=lo)(h2:lo<2 ^ 62)(h3: -(2 ^ 62)<=hi)(h4:hi<2 ^ 62)
  (q:R (Itr lo (hi-lo).toNat) H):Bb #v[a] X.A (Uy (.ref #v[0])) (PIE X aa σ tg R) E {s with heap:=s.heap.push {cls:=.type "range",data:=.fields (List.toArray [.int lo t,.int hi u,.int 1 v])},toks:=tk}:=by
 refine wpAny_pyIter_range (IsRange.new ..) (small_one h1 h2 h3 h4) ?_;have I1:Inv X aa σ H {s with heap:=s.heap.push {cls:=.type "range",data:=.fields (List.toArray [.int lo t,.int hi u,.int 1 v])},toks:=tk}:=I.kept λb o e=>Ae _ e;refine⟨(s.heap.push {cls:=.type "range",data:=.fields (List.toArray [.int lo t,.int hi u,.int 1 v])}).objs.size,[(s.heap.push {cls:=.type "range",data:=.fields (List.toArray [.int lo t,.int hi u,.int 1 v])}).objs.size],_,_,H,rfl,
  I1.kept (t':=tk) λb o e=>Ae _ e,aJy _ lo (hi-lo).toNat,?_,λb hb=>?_,q⟩
 ·have e1:lo+((0:Nat):Int)*1=lo:=by simp
  have e2:(((hi-lo).toNat:Nat):Int)-((0:Nat):Int)=Pc lo hi 1:=by rw[rangeSize_one];split<;>lia
  show IsRangeIter _ _ (lo+((0:Nat):Int)*1) ((((hi-lo).toNat:Nat):Int)-((0:Nat):Int)) 1;rw[e1,e2];exact Au _ rfl
 ·have e:b=(s.heap.push {cls:=.type "range",data:=.fields (List.toArray [.int lo t,.int hi u,.int 1 v])}).objs.size:=by simpa using hb
  subst e;exact I1.fpOk (Ak _) (I1.hok.fresh (Ak _))
inductive aVf(vs:List V)(H1:Hp)(R:It->Hp->Prop):Prop
 |mk (j:Int) (q0_:vs=[.int j]) (q1_: -(2 ^ 62)<=j) (q2_:j<2 ^ 62) (q3_:R (Itr 0 j.toNat) H1):aVf vs H1 R
def bCw(vs:List V)(H1:Hp)(R:It->Hp->Prop):Prop:=aVf vs H1 R
def bAh(ta:TA):TI:=λσ H R=>ta σ H λvs H1=>bCw vs H1 R
def bAi(ta:TA):TI:=λσ H R=>ta σ H λvs H1=>∃i j:Int,vs=[.int i,.int j]/\(-(2 ^ 62)<=i/\i<2 ^ 62/\ -(2 ^ 62)<=j/\j<2 ^ 62)/\R (Itr i (j-i).toNat) H1
def aM2{a:Cr}{ta:TA}{p pos:Pos}(hg:Gl X "range")(hm:X.mg "range"=none)(ha:PA X [a] ta)(hs:Ca [a] X.env=[(false,eval a X.env)]:=by rfl):PI X tg (.Call (.Name "range" p) [a] [] pos) (bAh ta):=by
 intro aa s σ H R I h;refine Call_ (pB I hg hm Aab (Eb (thn (ha pos aa s σ H _ I h) λus s1 ⟨vs,H1,I1,r1,q1⟩=>?_) hs rfl));obtain⟨j,e,q1,q2,q⟩:=q1;subst e;cases r1 with
 |cons r rr=>
  cases rr;obtain⟨t,rfl⟩:=r;exact call_range_1 (aG3 I1 ∅ ∅ q1 q2 (by simpa using q))
def aM3{a b:Cr}{ta:TA}{p pos:Pos}(hg:Gl X "range")(hm:X.mg "range"=none)(ha:PA X [a,b] ta)(hs:#v[n]:=by rfl)(hs2:Ca [b] X.env=[(false,eval b X.env)]:=by rfl):
  PI X tg (.Call (.Name "range" p) [a,b] [] pos) (bAi ta):=by
 intro aa s σ H R I h;refine Call_ (pB I hg hm Aab (Eb (thn (ha pos aa s σ H _ I h) λus s1 ⟨vs,H1,I1,r1,q1⟩=>?_) (by rw[hs,hs2]) (by rw[hs2];rfl)));obtain⟨i,j,e,⟨q1,q2,q3,q4⟩,q⟩:=q1;subst e;cases r1 with
 |cons r rr=>
  cases rr with
  |cons r' rr=>
   cases rr;obtain⟨t,rfl⟩:=r;obtain⟨t',rfl⟩:=r';exact call_range_2 (aG3 I1 q1 q2 q3 q4 q)
def bC4(wi:TI)(g:TG)(tb:TS):TS:=λD σ H=>wi σ H λJ H1=>∃W:Nat->Nat->St->Hp->Prop,(∃m,W 0 m σ H1)/\∀i m σ H,W i m σ H->
 (J.stop i H/\D.nx σ H)∨(J.go i H/\∃N:St->Hp->Prop,(∀σ' H',N σ' H'->∃m',m'<m/\W (i+1) m' σ' H')/\∀x H',J.yld i H x H'->g x σ H' λσ2 H2=>tb {D with nx:=N,ct:=N,bk:=D.nx} σ2 H2)
def aEp(fp:List Addr)(h:Heap):#v[6]:=fp.filterMap λb=>(h.get? b).map λo=>(b,o)
def kE{h:Heap}{o:Obj}(hb:b∈fp)(e:h.get? b=some o):(b,o)∈aEp fp h:=Lk.mpr #[b,hb,by rw[e];rfl]
def aMj{h:Heap}(hp:p∈aEp fp h):p.1∈fp/\h.get? p.1=some p.2:=by
 obtain⟨b,hb,e⟩:=Lk.mp hp;cases q:h.get? b with
 |none=>rw[q]at e;cases e
 |some o=>
  rw[q]at e;have e':(b,o)=p:=Bs e;subst e';exact#[hb,q]
def Inv.pinned{aa:#v[6]}{σ:St}{H:Hp}{s:Shared}(I:#v[3])(hf:∀b∈fp,aDh X aa H b)(ho:∀b∈fp,∃o,s.heap.get? b=some o/\∀v,o.data≠.cell v):Inv X (aa++aEp fp s.heap) σ H s:=
 I.pins_of λp hp=>(Bd.mp hp).elim (λz=>I.pin p (Be _ z)) λz=>by
  obtain⟨hb,e⟩:=aMj z;obtain⟨f0,f1,f2,_⟩:=hf p.1 hb;obtain⟨o,e',d⟩:=ho p.1 hb;rw[e]at e';cases e';exact#[e,f0,f1,f2,d]
def Inv.unpinned{aa pl:#v[6]}{σ:St}{H:Hp}{s:Shared}(I:Inv X (aa++pl) σ H s):#v[3]:=I.pins_of λp hp=>I.pin p (Be _ (Bo _ hp))
def aX2{iter:Cr}{wi:TI}{g:TG}{tb:TS}{pos:Pos}(hp:Wz #v[a] X.A X.env X.xe)(hc:X.calm=true)(hi:PI X tg iter wi)(hg:PG X tg g)(hb:PSs X body tb)
  (hs:FS X iter:=by intro _;rfl):PS X (.For tg iter body [] pos) (bC4 wi g tb):=by
 intro aa s σ H D I h;refine wpAny_For (thn (hi aa s σ H _ I h) λv s1 h1=>thn h1 λitv s2 h2=>?_) hs;obtain⟨it,fp,tn,J,H2,e,I2,T,st2,f2,W,⟨m0,w0⟩,turn⟩:=h2;subst e;have stat:∀{H':Hp},(∀b∈fp,H' b=none)->∀b∈fp,aDh X aa H' b:=λhn b hb=>#[hn b hb,(f2 b hb).2];refine codeAny_forLoop_any (λn s'=>∃i σ' H',Inv X aa σ' H' s'/\tn i s'.heap/\(∀b∈fp,H' b=none)/\W i n σ' H') ?_ m0 #[0,σ,H2,I2,st2,λb hb=>(f2 b hb).1,w0];rintro n s3 ⟨i,σ3,H3,I3,st3,fr3,w3⟩;rcases turn i n σ3 H3 w3 with ⟨stop,qn⟩|⟨go,N,hN,step⟩
 ·refine Jc hp (thn (T.done X rfl rfl rfl hc i aa s3 σ3 H3 X.xe I3 (stat fr3) st3 stop) λr s4 ⟨hr,I4⟩=>?_);subst hr;exact Oe #[σ3,H3,I4,qn]
 ·refine Jc hp (thn (T.item X rfl rfl rfl hc i aa s3 σ3 H3 X.xe I3 (stat fr3) st3 go) λr s4 ⟨u,hr,h4⟩=>?_);subst hr;refine Jc hp (thn h4 λ_ s5 ⟨x,H5,I5,r5,y5,st5,fr5⟩=>?_);have I5':=I5.pinned (stat fr5) (T.obj _ _ st5);refine Jc hp (thn (hg _ s5 σ3 H5 x u _ I5' r5 (step x H5 y5)) λ_ s6 ⟨σ6,H6,I6,q6⟩=>?_);refine Jc hp (thn (hb _ s6 σ6 H6 _ I6 q6) λf s7 q7=>?_);have again:∀{σ7:St}{H7:Hp},Inv X (aa++aEp fp s5.heap) σ7 H7 s7->N σ7 H7->∃m,m<n/\∃i σ' H',Inv X aa σ' H' s7/\tn i s7.heap/\(∀b∈fp,H' b=none)/\W i m σ' H':=λ{σ7 H7} I7 n7=>by
   obtain⟨m',hm,w7⟩:=hN σ7 H7 n7;refine#[m',hm,i+1,σ7,H7,I7.unpinned,T.keep _ _ _ st5 λb hb o e=>(I7.pin (b,o) (Be _ (Be _ (kE hb e)))).1,λb hb=>?_,w7];obtain⟨o,e,d⟩:=T.obj _ _ st5 b hb;exact(I7.pin (b,o) (Be _ (Be _ (kE hb e)))).2.1
  cases f with
  |next=>obtain⟨σ7,H7,I7,n7⟩:=q7;exact again I7 n7
  |cont=>obtain⟨σ7,H7,I7,n7⟩:=q7;exact again I7 n7
  |brk=>obtain⟨σ7,H7,I7,q7⟩:=q7;exact#[σ7,H7,I7.unpinned,q7]
  |ret v=>obtain⟨x7,σ7,H7,I7,r7,q7⟩:=q7;exact#[x7,σ7,H7,I7.unpinned,r7,q7]
abbrev R2:=V->V->Hp->VK->Prop
def OpR(X:Cx)(f:Value->Value->Sem Value)(r:R2):Prop:=
 ∀(aa:#v[6])(s:Shared)(σ:St)(H:Hp)(x y:V)(v u:Value)(Q:VK),#v[3]->RelV x v->RelV y u->r x y H Q->
  Bb #v[a] X.A (f v u) (EP X aa σ Q) X.xe s
def UnR(X:Cx)(f:Value->Sem Value)(r:V->Hp->VK->Prop):Prop:=
 ∀(aa:#v[6])(s:Shared)(σ:St)(H:Hp)(x:V)(v:Value)(Q:VK),#v[3]->RelV x v->r x H Q->
  Bb #v[a] X.A (f v) (EP X aa σ Q) X.xe s
def dR(X:Cx)(f:Value)(r:List V->Hp->VK->Prop):Prop:=
 ∀(aa:#v[6])(s:Shared)(σ:St)(H:Hp)(xs:List V)(us:List Value)(Q:VK),#v[3]->Vals xs us->r xs H Q->
  Bb #v[a] X.A (call f us) (EP X aa σ Q) X.xe s
def tOp(r:R2)(ta tb:TE):TE:=λσ H Q=>ta σ H λx H1=>tb σ H1 λy H2=>r x y H2 Q
def tUn(r:V->Hp->VK->Prop)(ta:TE):TE:=λσ H Q=>ta σ H λx H1=>r x H1 Q
inductive IrI(C:Int->Int->Prop)(g:Int->Int->V)(x:V)(y:V)(H:Hp)(Q:VK):Prop
 |mk (i j:_) (q0_:x=.int i) (q1_:y=.int j) (q2_:C i j) (q3_:Q (g i j) H):IrI C g x y H Q
def rI(C:Int->Int->Prop)(g:Int->Int->V):R2:=λx y H Q=>IrI C g x y H Q
def rI0(g:Int->Int->V):R2:=λx y H Q=>∃i j,x=.int i/\y=.int j/\Q (g i j) H
inductive IrU(g:Int->V)(x:V)(H:Hp)(Q:VK):Prop
 |mk (i:_) (q0_:x=.int i) (q1_:Q (g i) H):IrU g x H Q
def rU(g:Int->V):V->Hp->VK->Prop:=λx H Q=>IrU g x H Q
section
variable {X:Cx}{a b c:Cr}{ta tb tc:TE}{pos:Pos}
def aWu(ha:PE X a ta)(hb:PE X b tb){aa:#v[6]}{s:Shared}{σ:St}{H:Hp}{R:V->V->Hp->Prop}(I:#v[3])
  (h:ta σ H λx H1=>tb σ H1 λy H2=>R x y H2) {f:Value->Value->Sem Value}
  (hf:∀v u s2 x y H2,Inv X aa σ H2 s2->RelV x v->RelV y u->R x y H2->Bb #v[a] X.A (f v u) Q X.xe s2):
  Bb #v[a] X.A (eval a X.env) (λv s₁=>Bb #v[a] X.A (eval b X.env) (λu s₂=>Bb #v[a] X.A (f v u) Q X.xe s₂) X.xe s₁) X.xe s:=by
 refine thn #v[r] λv s1 ⟨x,H1,I1,r1,q1⟩=>?_;refine thn (hb aa s1 σ H1 _ I1 q1) λu s2 ⟨y,H2,I2,r2,q2⟩=>?_;exact hf v u s2 x y H2 I2 r1 r2 q2
def jX{op:Operator}{r:R2}(ho:OpR X (Jk op) r)(ha:PE X a ta)(hb:PE X b tb):PE X (.BinOp a op b pos) (tOp r ta tb):=by
 intro aa s σ H Q I h;exact wpAny_BinOp (aWu ha hb I h λv u s2 x y H2 I2 rx ry q=>ho aa s2 σ H2 x y v u Q I2 rx ry q)
def bAx{op:UnaryOp}{r:V->Hp->VK->Prop}(ho:UnR X (unaryOp op) r)(ha:PE X a ta):PE X (.UnaryOp op a pos) (tUn r ta):=by
 intro aa s σ H Q I h;exact UnaryOp_ (thn #v[r] λv s1 ⟨x,H1,I1,r1,q1⟩=>ho aa s1 σ H1 x v Q I1 r1 q1)
def opI{f:Value->Value->Sem Value}{C:Int->Int->Prop}
  (rule:∀(i j:Int)(t u:Tok)(s:Shared)(Q:#v[5])(E:#v[5]),C i j->Q (.int (g i j) s.toks) {s with toks:=s.toks+1}->Bb #v[a] X.A (f (.int i t) (.int j u)) Q E s):
  OpR X f (rI C λi j=> .int (g i j)):=by
 intro aa s σ H x y v u Q I rx ry h;obtain⟨i,j,rfl,rfl,hc,q⟩:=h;obtain⟨t,rfl⟩:=rx;obtain⟨t',rfl⟩:=ry;exact rule i j t t' s _ _ hc #[.int (g i j),H,I.tok _,#[_,rfl],q]
def bAq{f:Value->Value->Sem Value}
  (rule:∀(i j:Int)(t u:Tok)(s:Shared)(Q:#v[5])(E:#v[5]),Q (.int (g i j) s.toks) {s with toks:=s.toks+1}->Bb #v[a] X.A (f (.int i t) (.int j u)) Q E s):
  OpR X f (rI0 λi j=> .int (g i j)):=by
 intro aa s σ H x y v u Q I rx ry h;obtain⟨i,j,rfl,rfl,q⟩:=h;obtain⟨t,rfl⟩:=rx;obtain⟨t',rfl⟩:=ry;exact rule i j t t' s _ _ #[.int (g i j),H,I.tok _,#[_,rfl],q]
def aTl{f:Value->Value->Sem Value}{g:Int->Int->Bool}
  (rule:∀(i j:Int)(t u:Tok)(s:Shared)(Q:#v[5])(E:#v[5]),Q (.bool (g i j)) s->Bb #v[a] X.A (f (.int i t) (.int j u)) Q E s):
  OpR X f (rI0 λi j=> .bl (g i j)):=by
 intro aa s σ H x y v u Q I rx ry h;obtain⟨i,j,rfl,rfl,q⟩:=h;obtain⟨t,rfl⟩:=rx;obtain⟨t',rfl⟩:=ry;exact rule i j t t' s _ _ #[.bl (g i j),H,I,rfl,q]
def bCf(i j:Int):Prop:=0<=j/\j<=1000000/\i.natAbs<2 ^ 64
def aWk(i j:Int):Prop:=(-(2 ^ 64)<i/\i<2 ^ 64)∨(-(2 ^ 64)<j/\j<2 ^ 64)
def aWk.ok{i j:Int}(h:aWk i j):IntMulOk i j:=by
 rcases h with ⟨h1,h2⟩|⟨h1,h2⟩
 ·exact .of_left (intBits_le_64 h1 h2)
 ·exact .of_right (intBits_le_64 h1 h2)
def xP:OpR X (Jk .Add) (rI0 λi j=> .int (i+j)):=bAq λ_ _ _ _ _ _ _ q=>add_int q
def sY:OpR X (Jk .Sub) (rI0 λi j=> .int (i-j)):=bAq λ_ _ _ _ _ _ _ q=>sub_int q
def pD:OpR X (Jk .Mult) (rI aWk λi j=> .int (i*j)):=opI λ_ _ _ _ _ _ _ hc q=>mul_int q hc.ok
def xQ:OpR X (Jk .Mod) (rI (λ_ j=>0<j) λi j=> .int (i % j)):=opI λi j _ _ _ _ _ hc q=>by
 have h1:(0:Int)<j:=hc;exact mod_int' ∅ (by rw[Int.fmod_eq_emod_of_nonneg i ∅];exact q)
def aXm:OpR X (Jk .Pow) (rI bCf λi j=> .int (i ^ j.toNat)):=opI λ_ _ _ _ _ _ _ hc q=>pow_int_small hc.1 hc.2.1 hc.2.2 q
def unI{f:Value->Sem Value}{g:Int->Int}
  (rule:∀(i:Int)(t:Tok)(s:Shared)(Q:#v[5])(E:#v[5]),Q (.int (g i) s.toks) {s with toks:=s.toks+1}->Bb #v[a] X.A (f (.int i t)) Q E s):
  UnR X f (rU λi=> .int (g i)):=by
 intro aa s σ H x v Q I rx h;obtain⟨i,rfl,q⟩:=h;obtain⟨t,rfl⟩:=rx;exact rule i t s _ _ #[.int (g i),H,I.tok _,#[_,rfl],q]
def aYp:UnR X (unaryOp .USub) (rU λi=> .int (-i)):=unI λ_ _ _ _ _ q=>neg_int q
end
section
variable {X:Cx}{a b c:Cr}{ta tb tc:TE}{pos:Pos}
def aGx:OpR X (Ff .Lt) (rI0 λi j=> .bl (decide (i<j))):=aTl λ_ _ _ _ _ _ _ q=>lt_int q
def aA7:OpR X (Ff .LtE) (rI0 λi j=> .bl (decide (i<=j))):=aTl λ_ _ _ _ _ _ _ q=>le_int q
def lL:OpR X (Ff .Gt) (rI0 λi j=> .bl (decide (j<i))):=aTl λ_ _ _ _ _ _ _ q=>gt_int q
def bAr:OpR X (Ff .GtE) (rI0 λi j=> .bl (decide (j<=i))):=aTl λ_ _ _ _ _ _ _ q=>ge_int q
def OpR.or(h:OpR X f r)(h':OpR X f r'):OpR X f (λx y H Q=>r x y H Q∨r' x y H Q):=by
 intro aa s σ H x y v u Q I rx ry q;rcases q with q|q
 ·exact h aa s σ H x y v u Q I rx ry q
 ·exact h' aa s σ H x y v u Q I rx ry q
def aEh(b:Cr)(h:op≠.In:=by decide)(h2:op≠.NotIn:=by decide):Hd op b=false:=by
 have e1:(op==CmpOp.In)=false:=by cases op<;>first|rfl|exact Ab2 rfl h
 have e2:(op==Aar)=false:=by cases op<;>first|rfl|exact Ab2 rfl h2
 cases b<;>simp[Hd,e1,e2]
def aTt{op:Uu}{r:R2}(ho:OpR X (Ff op) r)(ha:PE X a ta)(hb:PE X b tb)(hm:Hd op b=false):PE X (.Compare a [op] [b] pos) (tOp r ta tb):=by
 intro aa s σ H Q I h;exact wpAny_Compare1 (aWu ha hb I h λv u s2 x y H2 I2 rx ry q=>ho aa s2 σ H2 x y v u Q I2 rx ry q) hm
def aRk(t:TE):TT:=λσ H Q=>t σ H λx H1=>rBl x H1 Q
def aEr{op:Uu}{r:R2}(ho:OpR X (Ff op) r)(ha:PE X a ta)(hb:PE X b tb)(hm:Hd op b=false):PT X (.Compare a [op] [b] pos) (aRk (tOp r ta tb)):=by
 intro aa s σ H Q I h;refine Wr (thn #v[r] λv s1 ⟨x,H1,I1,r1,q1⟩=>thn (hb aa s1 σ H1 _ I1 q1) λu s2 ⟨y,H2,I2,r2,q2⟩=>
  thn (ho aa s2 σ H2 x y v u _ I2 r1 r2 q2) λc s3 ⟨z,H3,I3,r3,k,e,q3⟩=>?_) hm
 subst e;cases r3;exact Ec #[H3,I3,q3]
def aJv(r r':R2)(ta tb tc:TE):TE:=λσ H Q=>ta σ H λx H1=>tb σ H1 λy H2=>r x y H2 λz H3=>∃k,z=.bl k/\
 (if k=true then tc σ H3 λw' H4=>r' y w' H4 Q else Q (.bl false) H3)
def aQk{op op':Uu}{r r':R2}(ho:OpR X (Ff op) r)(ho':OpR X (Ff op') r')(ha:PE X a ta)(hb:PE X b tb)(hc:PE X c tc)
  (hm:Wv [op,op'] [b,c]=false:=by with_unfolding_all rfl):PE X (.Compare a [op,op'] [b,c] pos) (aJv r r' ta tb tc):=by
 intro aa s σ H Q I h;refine Compare_chain (thn #v[r] λv s1 ⟨x,H1,I1,r1,q1⟩=>chain_link (thn (hb aa s1 σ H1 _ I1 q1) λu s2 ⟨y,H2,I2,r2,q2⟩=>
  thn (ho aa s2 σ H2 x y v u _ I2 r1 r2 q2) λd s3 ⟨z,H3,I3,r3,k,e,q3⟩=>?_)) hm
 subst e;cases r3;refine Ec ?_;cases k with
 |false=>exact ite_ff #[.bl false,H3,I3,rfl,q3]
 |true=>exact ite_tt (chain_last (thn (hc aa s3 σ H3 _ I3 q3) λw' s4 ⟨z',H4,I4,r4,q4⟩=>ho' aa s4 σ H4 y z' u w' Q I4 r2 r4 q4))
def aQw{op op':Uu}{r r':R2}(ho:OpR X (Ff op) r)(ho':OpR X (Ff op') r')(ha:PE X a ta)(hb:PE X b tb)(hc:PE X c tc)
  (hm:Wv [op,op'] [b,c]=false:=by with_unfolding_all rfl):PT X (.Compare a [op,op'] [b,c] pos) (aRk (aJv r r' ta tb tc)):=by
 intro aa s σ H Q I h;refine isTrue_chain (thn #v[r] λv s1 ⟨x,H1,I1,r1,q1⟩=>test_link (thn (hb aa s1 σ H1 _ I1 q1) λu s2 ⟨y,H2,I2,r2,q2⟩=>
  thn (ho aa s2 σ H2 x y v u _ I2 r1 r2 q2) λd s3 ⟨z,H3,I3,r3,k,e,q3⟩=>?_)) hm
 subst e;cases r3;refine Ec ?_;cases k with
 |false=>
  obtain⟨k',e',q'⟩:=q3;cases e';exact ite_ff #[H3,I3,q']
 |true=>
  refine ite_tt (test_last (thn (hc aa s3 σ H3 _ I3 q3) λw' s4 ⟨z',H4,I4,r4,q4⟩=>thn (ho' aa s4 σ H4 y z' u w' _ I4 r2 r4 q4) λd' s5 ⟨z2,H5,I5,r5,k2,e2,q5⟩=>?_));subst e2;cases r5;exact Ec #[H5,I5,q5]
def aA0:(sizeLine:Nat)<2 ^ 63:=by rw[Es];decide
def aJd:OpR X (Jk .Add) (λx y H Q=>∃i j,x=.str i/\y=.str j/\i.length+j.length<=sizeLine/\Q (.str (i++j)) H):=by
 intro aa s σ H x y v u Q I rx ry h;obtain⟨i,j,rfl,rfl,hz,q⟩:=h;obtain⟨t,rfl⟩:=rx;obtain⟨t',rfl⟩:=ry;exact add_str (λt' tk=>#[.str (i++j),H,I.tok _,#[_,rfl],q]) hz
def vals1{x:V}(r:Vals [x] us):∃u,us=[u]/\RelV x u:=by
 cases r with
 |cons r1 r2=>cases r2;exact#[_,rfl,r1]
def vals2{x y:V}(r:Vals [x,y] us):∃u w',us=[u,w']/\RelV x u/\RelV y w':=by
 cases r with
 |cons r1 r2=>
  cases r2 with
  |cons r3 r4=>cases r4;exact#[_,_,rfl,r1,r3]
def aLr(hc:X.calm=true):dR X (.builtin "max") (λxs H Q=>∃i j,xs=[.int i,.int j]/\Q (.int (if j>i then j else i)) H):=by
 intro aa s σ H xs us Q I r h;obtain⟨i,j,rfl,q⟩:=h;obtain⟨u,w',rfl,⟨t,rfl⟩,⟨t',rfl⟩⟩:=vals2 r;refine max_two_ints (I.ok.hd hc) λh' tk k=>#[_,H,I.kept k,?_,q];by_cases hj:j>i
 ·rw[Ab1 hj,Ab1 hj];exact#[_,rfl]
 ·rw[Ab0 hj,Ab0 hj];exact#[_,rfl]
def aLs(hc:X.calm=true):dR X (.builtin "min") (λxs H Q=>∃i j,xs=[.int i,.int j]/\Q (.int (if j<i then j else i)) H):=by
 intro aa s σ H xs us Q I r h;obtain⟨i,j,rfl,q⟩:=h;obtain⟨u,w',rfl,⟨t,rfl⟩,⟨t',rfl⟩⟩:=vals2 r;refine min_two_ints (I.ok.hd hc) λh' tk k=>#[_,H,I.kept k,?_,q];by_cases hj:j<i
 ·rw[Ab1 hj,Ab1 hj];exact#[_,rfl]
 ·rw[Ab0 hj,Ab0 hj];exact#[_,rfl]
def pP:dR X (.type "int") (λxs H Q=>(∃i,xs=[.int i]/\Q (.int i) H)∨∃k,xs=[.bl k]/\Q (.int (if k then 1 else 0)) H):=by
 intro aa s σ H xs us Q I r h;rcases h with ⟨i,rfl,q⟩|⟨k,rfl,q⟩
 ·obtain⟨u,rfl,t,rfl⟩:=vals1 r;exact call_int_int #[.int i,H,I,#[_,rfl],q]
 ·obtain⟨u,rfl,r1⟩:=vals1 r;cases r1;exact call_int_bool #[.int (if k then 1 else 0),H,I.tok _,#[_,rfl],q]
end
structure aH3(h:Heap)(x dx C:Addr)(mA:Str->#v[10]):Prop where
 obj:h.get? x=some (Hb C dx)
 ns:h.Ns1 dx mA
 ne:dx≠x
def aMf{h:Heap}{dx:Addr}(n:h.Ns1 dx mA):∃od,h.get? dx=some od/\∀name,Mx name od=some (mA name):=by
 obtain⟨o,es,ep,ho,hd,hk,_,hm⟩:=n;refine#[o,ho,λname=>?_];have e:=hm name;unfold nsFind findBy at e;rw[<-Array.find?_toList]at e;unfold Mx;rw[hd];dsimp only;split
 ·rename_i y q;rw[q]at e;exact Ab9 some e
 ·rename_i q;rw[q]at e;have a:es.toList.any (·.refKey)=false:=by
   rw[List.any_eq_false];intro y hy;obtain⟨z,t,hkey⟩:=hk y (Nn.mp hy);simp[DictEntry.refKey,hkey]
  have a':¬es.toList.any (·.refKey)=true:=by rw[a];exact Ar
  rw[Ab0 a'];exact Ab9 some e
def aH3.look{h:Heap}{x dx C:Addr}(I:aH3 h x dx C mA):∃od,PySem.W.InstAt h x (Hb C dx) C (some od)/\∀name,Mx name od=some (mA name):=
 let⟨od,ho,hl⟩:=aMf I.ns
 #[od,#[I.obj,rfl,rfl,ho],hl]
variable {prog:An}{A:Cm}{E:#v[5]}{K:Ad}{x dx C f:Addr}{mA:Str->#v[10]}{name:Str}{v:Value}
def aSs(X:K.In s.heap)(I:aH3 s.heap x dx C mA)(hg:Ly K C name=true)(hh:Om K C=true)
  (ha:Fd K (.ref C) name=some none) (hv:mA name=some v) (hv':Vc v=true) (h:Q v {s with toks:=s.toks+1}):
  Bb #v[b] A (getAttr (.ref x) name expr) Q E s:=by
 obtain⟨od,J,hl⟩:=I.look;exact PySem.W.get_value X J (Ni hg).1 (PySem.W.findObj_own hh ha rfl (by rw[hl,hv])) hv' h
def aO7{Q:Value×List Value->Shared->Prop}(X:K.In s.heap)(I:aH3 s.heap x dx C mA)(hg:Ly K C name=true)
  (hf:Fd K (.ref C) name=some (some (.ref f))) (ht:Sg K (.ref f)=true) (hv:mA name=none) (h:Q (.ref f,[.ref x]) s):
  Bb #v[b] A (Qb (.ref x) name pl) Q E s:=by
 obtain⟨od,J,hl⟩:=I.look;exact PySem.W.method_fn X J (Ni hg).1 (Ni hg).2 hf (beq_iff_eq.mp ht) (by show(Mx name od).map (·.isSome)=some false;rw[hl,hv];rfl) h
def aUe{Q:Unit->Shared->Prop}(X:K.In s.heap)(I:aH3 s.heap x dx C mA)
  (hs:Fd K (.ref C) "__setattr__"=some (some (.builtin "object.__setattr__"))) (hp:Uj K C=true) (ht:Pi K C name=some none) (hh:Om K C=true)
  (hw:Tq mA ns) (hsz:ns.length<=sizeLine)
  (h:∀h',aH3 h' x dx C (λy=>if y=name then some v else mA y)->Eo dx s.heap h'->Q () {s with heap:=h',toks:=s.toks+2}):
  Bb #v[b] A (setAttr (.ref x) name v) Q E s:=by
 obtain⟨od,J,hl⟩:=I.look;refine PySem.W.set_plain X J hs (PySem.W.osa_open (s:={s with toks:=s.toks+1}) (r:=none) X J hp ht λb=>?_);obtain⟨cd,hc,hd'⟩:=PySem.W.any_some hh;have hx:s.heap.get? x=some #[.ref C,some dx,.plain, (List.toArray [])]:=I.obj;refine Aa (Ac (Aa (Aa (wpAny_loadPart hx (Aa (Aah (s:={s with toks:=s.toks+1}) (PySem.W.looks_clsIn X hc) ?_))))));rw[hd'];refine Ac (a:=some dx) (Aa (Ac (Aa ?_)));refine wpAny_nsSet1 (s:={s with toks:=s.toks+1}) I.ns λh' hn2 hs2=>?_;obtain⟨oD,esD,epD,hoD,hdD,hcD⟩:=hn2.count (Aa1 name v hw);refine Aa (wpAny_lookBehind hoD (by rw[hdD];exact pastItsLine_dict (Dd hcD (by rw[Ao];lia))) ?_);exact Ac (h _ #[(hs2.2 _ (Dc I.ne)).trans I.obj,hn2,I.ne] hs2)
def aPk(X:K.In s.heap)(hm:Pj K C=true)
  (hi:Fd K (.ref C) "__init__"=some (some (.ref f))) (hf:PySem.W.typeIn K (.ref f)=some (.type "function"))
  (h:Jn #v[b] (A.under (.builtin "type.__call__" #[.ref C::vs,kw])) (.call (.ref f) #[.ref (#v[0]+1)::vs,kw]) (PySem.W.InitBack (#v[0]+1) R)
   {s with heap:=(s.heap.push Fu).push (Hb C #v[0])}):
  Jn #v[b] A (.call (.ref C) #[vs,kw]) R s:=by
 obtain⟨hh,g,d,t,os⟩:=s;exact PySem.W.make_core (PySem.W.makes_of X hm) (PySem.W.looks_findIn X hi) (λself=>PySem.W.bind_fn X self hf) (.inl rfl) h
def lM(f:Str)(v:V):List (Str×V)->List (Str×V)
 | []=>[(f,v)]
 |(g,x)::r=>if g=f then(g,v)::r else(g,x)::lM f v r
theorem yP(f g:Str)(v:V):∀fs:List (Str×V),(lM f v fs).lookup g=if g=f then some v else fs.lookup g
 | []=>by
  show Hm g [(f,v)]=_;by_cases h:g=f
  ·have hb:(g==f)=true:=beq_iff_eq.mpr h;simp only[Hm,hb,Ab1 h]
  ·have hb:(g==f)=false:=beq_eq_false_iff_ne.mpr h;simp only[Hm,hb,Ab0 h]
 |(k,x)::r=>by
  have ih:=yP f g v r;rw[show lM f v ((k,x)::r)=(if k=f then(k,v)::r else(k,x)::lM f v r)from rfl];by_cases hk:k=f
  ·rw[Ab1 hk];by_cases h:g=k
   ·have hb:(g==k)=true:=beq_iff_eq.mpr h;simp only[Hm,hb,Ab1 (h.trans hk)]
   ·have hb:(g==k)=false:=beq_eq_false_iff_ne.mpr h;simp only[Hm,hb,Ab0 (λe:g=f=>h (e.trans hk.symm))]
  ·rw[Ab0 hk];by_cases h:g=k
   ·have hb:(g==k)=true:=beq_iff_eq.mpr h;simp only[Hm,hb,Ab0 (λe:g=f=>hk (h.symm.trans e))]
   ·have hb:(g==k)=false:=beq_eq_false_iff_ne.mpr h;simp only[Hm,hb];exact ih
theorem xK(f:Str)(v:V):∀fs:List (Str×V),f∈(lM f v fs).map (·.1)/\∀g,g∈fs.map (·.1)->g∈(lM f v fs).map (·.1)
 | []=>#[by simp[lM],λg h=>by simp at h]
 |(k,x)::r=>by
  obtain⟨i1,i2⟩:=xK f v r;rw[show lM f v ((k,x)::r)=(if k=f then(k,v)::r else(k,x)::lM f v r)from rfl];by_cases hk:k=f
  ·rw[Ab1 hk];subst hk;exact#[by simp,λg h=>by simpa using h]
  ·rw[Ab0 hk];refine#[?_,λg h=>?_]
   ·rw[Bj];exact Af _ i1
   ·rw[Bj]at h⊢;rcases Ax.mp h with e|e
    ·exact Ax.mpr (.inl e)
    ·exact Af _ (i2 g e)
theorem yO(f:Str)(v:V):∀fs:List (Str×V),(lM f v fs).length<=fs.length+1
 | []=>by simp[lM]
 |(k,x)::r=>by
  have ih:=yO f v r;rw[show lM f v ((k,x)::r)=(if k=f then(k,v)::r else(k,x)::lM f v r)from rfl];by_cases hk:k=f
  ·rw[Ab1 hk,Ao,Ao];lia
  ·rw[Ab0 hk,Ao,Ao];lia
def tZ.some_of{v:V}{o:#v[10]}(r:tZ (some v) o):∃u,o=some u/\RelV v u:=by
 cases o with
 |none=>exact(show False from r).elim
 |some u=>exact#[u,rfl,r]
def tZ.none_of{o:#v[10]}(r:tZ none o):o=none:=by
 cases o with
 |none=>rfl
 |some u=>exact(show False from r).elim
def aL4{v:V}(r:RelV v u):Vc u=true:=by
 cases v with
 |non=>cases (show u=Cb from r);rfl
 |bl b=>cases (show u=Lu b from r);rfl
 |int i=>obtain⟨t,e⟩:=(show∃t,u=Ey i t from r);cases e;rfl
 |str x=>obtain⟨t,e⟩:=(show∃t,u=Qd x t from r);cases e;rfl
 |byt b=>obtain⟨t,e⟩:=(show∃t,u=Aaf b t from r);cases e;rfl
 |flt b=>obtain⟨t,e⟩:=(show∃t,u=Ui b t from r);cases e;rfl
 |ref a=>cases (show u=As a from r);rfl
 |ty n=>cases (show u=Hr n from r);rfl
variable {fs fs':List (Str×V)}
def zP(hok:HOk P w H h)(e:H a=some (.ins C dx fs)):∃mA,aH3 h a dx C mA/\(∀f,tZ (fs.lookup f) (mA f))/\Tq mA (fs.map (·.1))/\fs.length<=1000/\H dx=some (.own a):=by
 obtain⟨d,z,ne,ob,mA,n,r,q⟩:=(show bO P w H h a (.ins C dx fs)from hok a _ e);exact#[mA,#[ob,n,ne],r,q,z,d]
structure Cls(K:Ad)(C:Addr):Prop where
 pg:Ly K C Str.empty=true
 hd:Om K C=true
 po:Uj K C=true
 sa:Fd K (.ref C) "__setattr__"=some (some (.builtin "object.__setattr__"))
def Cls.get{K:Ad}{C:Addr}(c:Cls K C)(f:Str):Ly K C f=true:=c.pg
def mZ(K:Ad)(C:Addr)(f:Str):Prop:=Fd K (.ref C) f=some none
def mZ.taker{K:Ad}{C:Addr}{f:Str}(n:mZ K C f):Pi K C f=some none:=by
 unfold Pi;rw[show Fd K (.ref C) f=some none from n];rfl
structure Meth(K:Ad)(C:Addr)(m:Str)(f:Addr):Prop where
 at_:Fd K (.ref C) m=some (some (.ref f))
 fn:Sg K (.ref f)=true
 kp:Iu K (.ref f)=true
section
variable {X:Cx}{aa:#v[6]}{σ:St}{H:Hp}{s:Shared}{a C dx:Addr}{fs:List (Str×V)}{f:Str}{v:V}{A:Cm}{E:#v[5]}
def aI2{b:Bool}(I:#v[3])(e:H a=some (.ins C dx fs))(c:Cls X.K C)(n:mZ X.K C f)(l:fs.lookup f=some v)
  (h:∀u s',Inv X aa σ H s'->RelV v u->Q u s'):Bb #v[a] A (getAttr (.ref a) f b) Q E s:=by
 obtain⟨mA,O,r,_,_,_⟩:=zP I.hok e;obtain⟨u,hu,ru⟩:=tZ.some_of (v:=v) (o:=mA f) (by rw[<-l];exact r f);exact aSs I.kIn O (c.get f) c.hd n hu (aL4 ru) (h u _ (I.tok _) ru)
def aAx{g:Addr}{Q:Value×List Value->Shared->Prop}(I:#v[3])(e:H a=some (.ins C dx fs))(c:Cls X.K C)(k:Meth X.K C m g)(l:fs.lookup m=none)
  (h:Q (.ref g,[.ref a]) s):Bb #v[a] A (Qb (.ref a) m pl) Q E s:=by
 obtain⟨mA,O,r,_,_,_⟩:=zP I.hok e;have hn:mA m=none:=tZ.none_of (by rw[<-l];exact r m);exact aO7 I.kIn O (c.get m) k.at_ k.fn hn h
def aJp{Q:Unit->Shared->Prop}(I:#v[3])(e:H a=some (.ins C dx fs))(c:Cls X.K C)(n:mZ X.K C f)(hl:fs.length<1000)(ry:RelV y u)
  (h:∀s',Inv X aa σ (upd H a (.ins C dx (lM f y fs))) s'->Q () s'):Bb #v[a] A (setAttr (.ref a) f u) Q E s:=by
 obtain⟨mA,O,r,wi,_,ho⟩:=zP I.hok e;have hz:(fs.map (·.1)).length<=sizeLine:=by rw[Ab,Es];lia
 refine aUe I.kIn O c.sa c.po n.taker c.hd wi hz λh' O' sb=>h _ ?_;have hd:∃o,h'.get? dx=some o:=let⟨o,_,_,e',_⟩:=O'.ns;#[o,e'];refine I.write (x:=a) (e:=dx) (by rw[e];exact Hh) (.inr ho) (λb q hb z=>(sb.2 b hb).trans z) hd ?_;refine#[by rw[aN O.ne];exact ho,?_,O.ne,O'.obj,_,O'.ns,λg=>?_,λg hg=>?_]
 ·have:=yO f y fs;lia
 ·show tZ ((lM f y fs).lookup g) (if g=f then some u else mA g);rw[yP];by_cases q:g=f
  ·rw[Ab1 q,Ab1 q];exact ry
  ·rw[Ab0 q,Ab0 q];exact r g
 ·by_cases q:g=f
  ·rw[q];exact(xK f y fs).1
  ·refine(xK f y fs).2 g (wi g λz=>hg ?_);show(if g=f then some u else mA g)=none;rw[Ab0 q];exact z
def Inv.made(I:#v[3]):Inv X aa σ (upd (upd H #v[0] (.own (#v[0]+1))) (#v[0]+1) (.ins C #v[0] []))
  {s with heap:=(s.heap.push Fu).push (Hb C #v[0])}:=by
 have e1:(s.heap.push Fu).get? #v[0]=some Fu:=Au s.heap rfl;have e2:((s.heap.push Fu).push (Hb C #v[0])).get? (#v[0]+1)=some (Hb C #v[0]):=by
  have:=Au (s.heap.push Fu) (o:=Hb C #v[0]) rfl
  rwa [Df]at this
 have e3:(s.heap.push Fu).Ns #v[0] (λ_=>none):=#[Fu, (List.toArray []),_,e1,rfl,(λe he=>Ab2 he (by simp)),λ_=>rfl];have I1:=I.laid (a:=#v[0]) (o:=.own (#v[0]+1)) (h':=s.heap.push Fu) (t':=s.toks) (λb u q=>Ae _ q) (Ak _) #[_,e1];refine I1.laid (a:=#v[0]+1) (o:=.ins C #v[0] []) (t':=s.toks) (λb u q=>Ae _ q) (Up (Df _ _)) ?_;have ne:#v[0]≠#v[0]+1:=Bc (Gy _);refine#[by rw[aN ne,aP],Bp _,ne,e2,λ_=>none,(Heap.Ns1.of_empty e3).at λo q=>Ae _ q,λ_=>Hh,λy hy=>Ab2 rfl hy]
def aSk{prog:An}{w:Bh}{e:Cr}{f:Str}{pos:Pos}{s:Shared}(hb:He e f env (eval e env)=eval e env)
  (h:Bb #v[b] A (eval e env) (λo s₁=>Bb #v[b] A (getAttr o f true) Q E s₁) E s):Bb #v[b] A (eval (.Attribute e f pos) env) Q E s:=
 Attribute_any_ h (by rw[arm_eval_Attribute,hb])
end
def bC3(K:Ad)(ta:TE)(f:Str):TE:=λσ H Q=>ta σ H λx H1=>∃a C dx fs v,x=.ref a/\H1 a=some (.ins C dx fs)/\Cls K C/\mZ K C f/\fs.lookup f=some v/\Q v H1
def bCz(K:Ad)(ta tv:TE)(f:Str):TS:=λD σ H=>tv σ H λy H1=>ta σ H1 λx H2=>∃a C dx fs,x=.ref a/\H2 a=some (.ins C dx fs)/\Cls K C/\mZ K C f/\fs.length<1000/\
 D.nx σ (upd H2 a (.ins C dx (lM f y fs)))
section
variable {X:Cx}{o e value:Cr}{f:Str}{pos pos' tpos:Pos}{ta tv:TE}
def aXs(he:PE X e ta)(hb:He e f X.env (eval e X.env)=eval e X.env):PE X (.Attribute e f pos) (bC3 X.K ta f):=by
 intro aa s σ H Q I h;refine aSk hb (thn (he aa s σ H _ I h) λu s1 ⟨x,H1,I1,rx,a,C,dx,fs,v,ex,ea,c,n,l,q⟩=>?_);subst ex;obtain rfl:u=As a:=rx;exact aI2 I1 ea c n l λu' s2 I2 ru=>#[v,H1,I2,ru,q]
def fC(ha:PE X o ta)(hv:PE X value tv)(hs:Fe value (some (.Attribute o f pos')) pos.line X.env=pure false):PS X (.Assign [.Attribute o f pos'] value pos) (bCz X.K ta tv f):=by
 intro aa s σ H D I h;refine plainObj_wpAny_Assign_Attribute (thn (hv aa s σ H _ I h) λu s1 ⟨y,H1,I1,ry,q⟩=>thn (ha aa s1 σ H1 _ I1 q) λov s2 ⟨x,H2,I2,rx,a,C,dx,fs,ex,ea,c,n,l,q2⟩=>?_) hs;subst ex;obtain rfl:ov=As a:=rx;exact aJp I2 ea c n l ry λs3 I3=>#[σ,_,I3,q2]
end
section
variable {X:Cx}{aa:#v[6]}{σ:St}{H:Hp}{s:Shared}{A:Cm}{E:#v[5]}{Q:#v[5]}{c:Value}{b:Bool}
inductive vO(K:Ad)(H:Hp):V->Value->Prop where
 |non:vO K H .non (.type "NoneType")
 |bl (x:Bool):vO K H (.bl x) (.type "bool")
 |int (i:Int):vO K H (.int i) (.type "int")
 |str (x:Str):vO K H (.str x) (.type "str")
 |flt (x:UInt64):vO K H (.flt x) (.type "float")
 |lst {a:Addr} {xs:List V} (e:H a=some (.lst xs)):vO K H (.ref a) (.type "list")
 |frz {a:Addr} {o:Obj} {xs:List V} (e:H a=some (.frz o (.lst xs))):vO K H (.ref a) (.type "list")
 |tup {a:Addr} {xs:List V} (e:H a=some (.tup xs)):vO K H (.ref a) (.type "tuple")
 |dK {a:Addr} {kvs:List (Key×V)} (e:H a=some (.dK kvs)):vO K H (.ref a) (.type "dict")
 |dT {a:Addr} {kvs:List (List Key×V)} (e:H a=some (.dT kvs)):vO K H (.ref a) (.type "dict")
 |ins {a C dx:Addr} {fs:List (Str×V)} (e:H a=some (.ins C dx fs)) (cl:Cls K C) (ha:Fd K (.ref C) "__class__"=some (some (.builtin "object.__class__")))
   (hn:PySem.W.specialIn K (.builtin "object.__class__") "__get__"=some (some (.builtin "getset_descriptor.__get__"))) (htk:PySem.W.takesIn K (.builtin "object.__class__")=some true)
   (hm:PySem.W.mroIn K C (.type "object")=some true):vO K H (.ref a) (.ref C)
def aMa{x:V}{u t:Value}(I:#v[3])(rx:RelV x u)(ty:vO X.K H x t)(e:Qf X.K t c=some b)(h:∀tk,Q (.bool b) {s with toks:=tk}):
  Bb #v[a] A (call (.builtin "isinstance") [u,c]) Q E s:=by
 cases ty with
 |non=>cases (show u=Cb from rx);exact En PySem.W.kitx_none I.kIn Hh e (λz=>nomatch z) h
 |bl y=>cases (show u=Lu y from rx);exact En PySem.W.kitx_bool I.kIn Hh e (λz=>nomatch z) h
 |int i=>obtain⟨t,q⟩:=(show∃t,u=Ey i t from rx);cases q;exact En PySem.W.kitx_int I.kIn Hh e (λz=>nomatch z) h
 |str y=>obtain⟨t,q⟩:=(show∃t,u=Qd y t from rx);cases q;exact En PySem.W.kitx_str I.kIn Hh e (λz=>nomatch z) h
 |flt y=>obtain⟨t,q⟩:=(show∃t,u=Ui y t from rx);cases q;exact En PySem.W.kitx_float I.kIn Hh e (λz=>nomatch z) h
 |@lst a xs ea=>
  cases (show u=As a from rx);obtain⟨_,_,n,_,h1⟩:=(show bO X.prog X.w H s.heap a (.lst xs)from I.hok a _ ea);exact En Uk I.kIn #[_,h1,rfl] e (λz=>nomatch z) h
 |@frz a ob xs ea=>
  cases (show u=As a from rx);obtain⟨_,_,_,n,_,h1⟩:=(show bO X.prog X.w H s.heap a (.frz ob (.lst xs))from I.hok a _ ea);exact En Uk I.kIn #[_,h1,rfl] e (λz=>nomatch z) h
 |@tup a xs ea=>
  cases (show u=As a from rx);obtain⟨_,_,_,p⟩:=(show bO X.prog X.w H s.heap a (.tup xs)from I.hok a _ ea);obtain⟨o,h1,h2,_⟩:=p;exact En PySem.W.kitx_tuple I.kIn #[o,h1,h2] e (λz=>nomatch z) h
 |@dK a kvs ea=>
  cases (show u=As a from rx);obtain⟨_,_,vs,_,p⟩:=(show bO X.prog X.w H s.heap a (.dK kvs)from I.hok a _ ea);obtain⟨o,es,ep,h1,h2,_⟩:=p;exact En Ol I.kIn #[o,h1,h2.1] e (λz=>nomatch z) h
 |@dT a kvs ea=>
  cases (show u=As a from rx);obtain⟨_,_,xs,_,o,es,ep,h1,h2,_⟩:=(show bO X.prog X.w H s.heap a (.dT kvs)from I.hok a _ ea);exact En Ol I.kIn #[o,h1,h2.1] e (λz=>nomatch z) h
 |@ins a C dx fs ea cl ha hn htk hm=>
  cases (show u=As a from rx);obtain⟨mA,O,_⟩:=zP I.hok ea;obtain⟨od,J,_⟩:=O.look;exact En (PySem.W.kitx_own (cl.get _) cl.hd ha hn htk hm) I.kIn J e (λz=>nomatch z) h
end
structure eZ(k:Nat)(A:Cm):Prop where
 hd:A.handled=none
 dp:A.depth+3*k+5<recursionLimit
 un:A.units+16*k+200<cLine
def eZ.mono{j k:Nat}{A:Cm}(r:eZ k A)(h:j<=k):eZ j A:=#[r.hd,by have:=r.dp;lia,by have:=r.un;lia]
def eZ.deeper{A:Cm}(r:eZ (k+1) A)(env:Env):eZ k (A.deeper env):=
 #[r.hd,by have:=r.dp;show A.depth+1+3*k+5<_;lia,by have:=r.un;show A.units+3+16*k+200<_;lia]
def aI5{A:Cm}{C:Addr}:(A.under (.builtin "type.__call__" #[.ref C::us,kw])).depth=A.depth+1:=by
 first|rfl|simp[Sy,Code.weight,Code.isCreation,Code.isGuard,Code.isCaller,Abd,Uc,guardIds]
def aI6{A:Cm}{C:Addr}:(A.under (.builtin "type.__call__" #[.ref C::us,kw])).units=A.units+1:=by
 first|rfl|simp[Sy,Code.cUnits,Abd,Uc]
def eZ.make{A:Cm}(r:eZ (k+1) A)(C:Addr)(us:List Value)(kw:List (Str×Value)):eZ k (A.under (.builtin "type.__call__" #[.ref C::us,kw])):=
 #[r.hd,by have:=r.dp;rw[aI5];lia,by have:=r.un;rw[aI6];lia]
def eZ.depth{A:Cm}(r:eZ k A):A.depth<recursionLimit:=by have:=r.dp;lia
def aJw:TA:=λ_ H Q=>Q [] H
def aLa(ta:TE)(tr:TA):TA:=λσ H Q=>ta σ H λx H1=>tr σ H1 λxs H2=>Q (x::xs) H2
section
variable {X:Cx}{e:Cr}{es:List Cr}{te:TE}{t:TA}{pos:Pos}
def dN:PA X [] aJw:=λ_ _ _ _ H Q I h=>Wd #[[],H,I,.nil,h]
def bZ(ha:PE X e te)(hr:PA X es t)(hs:SE X e es:=by rfl):PA X (e::es) (aLa te t):=by
 intro pos aa s σ H Q I h;rw[hs];show Bb _ _ (spliced ((false,eval e X.env)::Np pos (Ca es X.env))) _ _ s;refine Vk (thn #v[r] λu s1 ⟨x,H1,I1,r1,q1⟩=>?_);exact thn (hr pos aa s1 σ H1 _ I1 q1) λus s2 ⟨xs,H2,I2,r2,q2⟩=>#[x::xs,H2,I2,.cons r1 r2,q2]
def bDa(t:TA):TE:=λσ H Q=>t σ H λxs H1=>xs.length<=sizeLine/\∀p,H1 p=none->Q (.ref p) (upd H1 p (.tup xs))
def aYk(t:TA):TE:=λσ H Q=>t σ H λxs H1=>xs.length<=sizeLine/\∀p,H1 p=none->Q (.ref p) (upd H1 p (.lst xs))
def aXx{x1}(h:PA X es t):PE X (.Tuple es x1 pos) (bDa t):=by
 intro aa s σ H Q I hq;refine wpAny_Tuple_spliced (thn (h pos aa s σ H _ I hq) λus s1 ⟨xs,H1,I1,r,z,q⟩=>#[by rw[<-r.length];exact z,?_]);have hf:H1 s1.heap.objs.size=none:=I1.hok.fresh (Ak _);refine#[.ref s1.heap.objs.size,upd H1 s1.heap.objs.size (.tup xs),I1.laid (t':=s1.toks) (λb u e=>Ae _ e) (Ak _) ?_,rfl,q _ hf];exact#[z,us,r,#[_,Au _ rfl,rfl,_,rfl]]
def aEo(h:PA X es t):PE X (.List es pos) (aYk t):=by
 intro aa s σ H Q I hq;refine wpAny_List_spliced (thn (h pos aa s σ H _ I hq) λus s1 ⟨xs,H1,I1,r,z,q⟩=>#[by rw[<-r.length];exact z,?_]);have hf:H1 s1.heap.objs.size=none:=I1.hok.fresh (Ak _);refine#[.ref s1.heap.objs.size,upd H1 s1.heap.objs.size (.lst xs),I1.laid (t':=s1.toks) (λb u e=>Ae _ e) (Ak _) ?_,rfl,q _ hf];exact#[z,us,0,r,Au _ rfl]
end
abbrev Sp:=List V->Hp->VK->XK->Prop
abbrev CXT:=List Env->Hp->Shared->XK->#v[5]
structure aHw(P:An)(w:Bh)(K:Ad)(mg:Str->#v[10])(base:Heap)(A:Cm)(outer:List Env)(s:Shared)(H:Hp):Prop where
 frames:A.frames=some outer
 mod:Mod K mg base
 bs:∀b o,base.get? b=some o->s.heap.get? b=some o/\H b=none
 bsz:base.objs.size<=#v[0]
 funs:s.heap.FunFrames base outer
 frf:∀b∈frs outer,H b=none
 hok:HOk P w H s.heap
 bare:Pn s.gens
def CE(outer:List Env)(P:An)(w:Bh)(H:Hp)(s:Shared)(Q:VK)(u:Value)(s':Shared):Prop:=
 ∃v H',s'.os=s.os/\Pn s'.gens/\Un (frs outer) [] H H' s.heap s'.heap/\HOk P w H' s'.heap/\RelV v u/\Q v H'
def CR(CX:CXT)(outer:List Env)(P:An)(w:Bh)(H:Hp)(s:Shared)(Q:VK)(E:XK)(r:Qe)(s':Shared):Prop:=
 match r with
 |.ok (.ret u)=>CE outer P w H s Q u s'
 |.ok _=>False
 |.error e=>CX outer H s E e s'
structure bJ(P:An)(w:Bh)(K:Ad)(mg:Str->#v[10])(base:Heap)(CX:CXT)(k:Nat)(f:Addr)(fd:Br)(ps:List Str)(sp:Sp):Prop where
 len:∀vs H Q E,sp vs H Q E->vs.length=ps.length
 run:∀(A:Cm)(outer:List Env)(s:Shared)(H:Hp)(args:Args)(us:List Value)(vs:List V)(Q:VK)(E:XK),eZ k A->aHw P w K mg base A outer s H->We s fd args (ps.zip us)->Vals vs us->sp vs H Q E->
  Jn (model P w) A (.call (.ref f) args) (CR CX outer P w H s Q E) s
def bJ.mono{P:An}{w:Bh}{K:Ad}{CX:CXT}{j k:Nat}{f:Addr}{fd:Br}{ps:List Str}{sp:Sp}(F:bJ P w K mg base CX j f fd ps sp)(h:j<=k):
  bJ P w K mg base CX k f fd ps sp:=#[F.len,λA outer s H args us vs Q E hr=>F.run A outer s H args us vs Q E (hr.mono h)]
def aHw.make{P:An}{w:Bh}{K:Ad}{A:Cm}{outer:List Env}{s:Shared}{H:Hp}(e:aHw P w K mg base A outer s H)(C:Addr)(us:List Value)(kw:List (Str×Value)):
  aHw P w K mg base (A.under (.builtin "type.__call__" #[.ref C::us,kw])) outer s H:=#[by first|exact e.frames|(simpa[Sy,Code.envs,Uc,pushEnvs]using e.frames),e.mod,e.bs,e.bsz,e.funs,e.frf,e.hok,e.bare]
section
variable {X:Cx}{aa:#v[6]}{σ:St}{H:Hp}{s s':Shared}
def Inv.env0(I:#v[3]):aHw X.prog X.w X.K X.mg X.base X.A X.stack s H:=
 #[I.ok.frames,I.ok.mod,I.bs,Dd I.ok.bsz I.sz,I.stack,I.stkFree,I.hok,I.bare]
def Inv.after{Q:VK}(I:#v[3])(h:CE X.stack X.prog X.w H s Q u s'):EP X aa σ Q u s':=by
 obtain⟨v,H',os,bare,un,hok,r,q⟩:=h;obtain⟨hh,g,d,t,os'⟩:=s';obtain rfl:os'=s.os:=os;exact#[v,H',I.call (h':=hh) (g':=g) (d':=d) (t':=t) (ch:=[]) un hok bare (λb z=>Ab2 z (by simp)),r,q]
end
def aWe(sp:Sp)(dvs:List V)(E:XK)(t:TA):TE:=λσ H Q=>t σ H λvs H1=>sp (vs++dvs) H1 Q E
def bBi(C:Addr)(sp:Sp)(dvs:List V)(E:XK)(t:TA):TE:=λσ H Q=>t σ H λvs H1=>∀x dx,H1 x=none->H1 dx=none->dx≠x->
 sp (.ref x::(vs++dvs)) (upd (upd H1 dx (.own x)) x (.ins C dx [])) (λv H2=>v=.non/\Q (.ref x) H2) E
def Binds(K:Ad)(fd:Br)(ps:List Str)(ds:List Value):Prop:=
 ∀(s:Shared)(us:List Value),K.In s.heap->(us++ds).length=ps.length->We s fd #[us,[]] (ps.zip (us++ds))
def Binds.all{K:Ad}{fd:Br}{ps:List Str}(h:∀us:List Value,us.length=ps.length->Fh fd #[us,[]]=pure (ps.zip us)):Binds K fd ps []:=λs us _ hl=>by
 rw[Bk]at hl⊢;exact .of_eq (h us hl)
def rW(CX:CXT)(X:Cx)(E:XK):Prop:=∀(aa:#v[6])(σ:St)(H:Hp)(s:Shared)(e:Value)(s':Shared),#v[3]->CX X.stack H s E e s'->X.xe e s'
section
variable {X:Cx}{CX:CXT}{k:Nat}{f C:Addr}{fd:Br}{ps:List Str}{sp:Sp}{dvs:List V}{ds:List Value}{E:XK}{x m:Str}{p pos apos:Pos}{e o:Cr}{es:List Cr}{ta:TE}{t:TA}
def aJm{aa:#v[6]}{σ:St}{H:Hp}{s:Shared}{Q:VK}(F:bJ X.prog X.w X.K X.mg X.base CX k f fd ps sp)(hr:eZ k X.A)(hb:Binds X.K fd ps ds)(hd:Vals dvs ds)(hx:rW CX X E)
  (I:#v[3]) (r:Vals vs us) (h:sp (vs++dvs) H Q E):Bb #v[a] X.A (call (.ref f) us) (EP X aa σ Q) X.xe s:=by
 have r2:Vals (vs++dvs) (us++ds):=r.append hd;have hl:(us++ds).length=ps.length:=by rw[<-r2.length];exact F.len _ _ _ _ h
 refine Uv (Mf (F.run X.A X.stack s H #[us,[]] (us++ds) (vs++dvs) Q E hr I.env0 (hb s us I.kIn hl) r2 h) λr s' hq=>?_);cases r with
 |error e=>exact hx aa σ H s e s' I hq
 |ok fl=>
  cases fl with
  |ret u=>exact I.after hq
  |next=>exact Hg hq
  |brk=>exact Hg hq
  |cont=>exact Hg hq
def aTs(F:bJ X.prog X.w X.K X.mg X.base CX k f fd ps sp)(hr:eZ k X.A)(hg:Gl X x)(hm:X.mg x=some (.ref f))(hk:Iu X.K (.ref f)=true)(hb:Binds X.K fd ps ds)(hd:Vals dvs ds)(hx:rW CX X E)
  (ha:PA X (e::es) t) (hdb:ND x:=by decide) (he:SE X e es:=by rfl) (hpl:BT X pos es:=by rfl):
  PE X (.Call (.Name x p) (e::es) [] pos) (aWe sp dvs E t):=by
 intro aa s σ H Q I h;refine Hc (aEd I hg hm ?_ hdb);refine Nv (h₀:=X.base) I.ok.mod.kin hk (thn (ha pos aa s σ H _ I h) λus s1 ⟨vs,H1,I1,r,q⟩=>#[I1.kIn,?_]) he hpl;exact aJm F hr hb hd hx I1 r q
structure Mk(K:Ad)(C f:Addr):Prop where
 makes:Pj K C=true
 init:Fd K (.ref C) "__init__"=some (some (.ref f))
 fn:Sg K (.ref f)=true
 kp:Iu K (.ref C)=true
def aRd{aa:#v[6]}{σ:St}{H:Hp}{s:Shared}{Q:VK}(M:Mk X.K C f)(F:bJ X.prog X.w X.K X.mg X.base CX k f fd ps sp)(hr:eZ (k+1) X.A)(hb:Binds X.K fd ps ds)(hd:Vals dvs ds)
  (hx:rW CX X E) (I:#v[3]) (r:Vals vs us)
  (h:∀x dx,H x=none->H dx=none->dx≠x->sp (.ref x::(vs++dvs)) (upd (upd H dx (.own x)) x (.ins C dx [])) (λv H2=>v=.non/\Q (.ref x) H2) E):
  Bb #v[a] X.A (call (.ref C) us) (EP X aa σ Q) X.xe s:=by
 have hq:=h (#v[0]+1) #v[0] (I.hok.fresh (Hq _)) (I.hok.fresh (Ak _)) (Bc (Gy _));have I2:=Inv.made (C:=C) I;have r2:Vals (V.ref (#v[0]+1)::(vs++dvs)) (As (#v[0]+1)::(us++ds)):=.cons rfl (r.append hd);have hl:(As (#v[0]+1)::us++ds).length=ps.length:=by
  have e:=r2.length;rw[F.len _ _ _ _ hq]at e;exact e.symm
 refine Uv (aPk (f:=f) I.kIn M.makes M.init (beq_iff_eq.mp M.fn) (Mf (F.run _ X.stack _ _ #[As (#v[0]+1)::us,[]] (As (#v[0]+1)::(us++ds)) _ _ E (hr.make C us [])
  (I2.env0.make C us []) (hb _ (As (#v[0]+1)::us) I2.kIn hl) r2 hq) λr s' hq'=>?_))
 cases r with
 |error e=>exact hx aa σ _ _ e s' I2 hq'
 |ok fl=>
  cases fl with
  |ret u=>
   obtain⟨v,H',I3,rv,ev,q3⟩:=I2.after hq';subst ev;exact#[rv,#[V.ref (#v[0]+1),H',I3,rfl,q3]]
  |next=>exact Hg hq'
  |brk=>exact Hg hq'
  |cont=>exact Hg hq'
def aTw(M:Mk X.K C f)(F:bJ X.prog X.w X.K X.mg X.base CX k f fd ps sp)(hr:eZ (k+1) X.A)(hg:Gl X x)(hm:X.mg x=some (.ref C))(hb:Binds X.K fd ps ds)(hd:Vals dvs ds)(hx:rW CX X E)
  (ha:PA X (e::es) t) (hdb:ND x:=by decide) (he:SE X e es:=by rfl) (hpl:BT X pos es:=by rfl):
  PE X (.Call (.Name x p) (e::es) [] pos) (bBi C sp dvs E t):=by
 intro aa s σ H Q I h;refine Hc (aEd I hg hm ?_ hdb);refine Nv (h₀:=X.base) I.ok.mod.kin M.kp (thn (ha pos aa s σ H _ I h) λus s1 ⟨vs,H1,I1,r,q⟩=>#[I1.kIn,?_]) he hpl;exact aRd M F hr hb hd hx I1 r q
end
def PK(X:Cx)(kws:List Lw)(t:TA):Prop:=
 ∀(pos:Pos)(aa:#v[6])(s:Shared)(σ:St)(H:Hp)(Q:List V->Hp->Prop),#v[3]->t σ H Q->Bb #v[a] X.A (evalAll ((Gx pos (Ed kws X.env)).map (·.2))) (AP X aa σ Q) X.xe s
section
variable {X:Cx}{CX:CXT}{k:Nat}{f C:Addr}{fd:Br}{ps ks:List Str}{sp:Sp}{E:XK}{x m:Str}{p pos apos kpos:Pos}{e o:Cr}{es:List Cr}{kws:List Lw}{te ta:TE}{t tk:TA}{nm:Option Str}
def aQr:PK X [] aJw:=λ_ _ _ _ H Q I h=>wpAny_evalAll_nil #[[],H,I,.nil,h]
def aK4(ha:PE X e te)(hr:PK X kws t):PK X (#[nm,e,kpos]::kws) (aLa te t):=by
 intro pos aa s σ H Q I h;show Bb _ _ (evalAll ((do let v<-eval e X.env;Ph pos;pure v)::(Gx pos (Ed kws X.env)).map (·.2))) _ _ s;refine wpAny_evalAll_cons (Aa (thn #v[r] λu s1 ⟨x,H1,I1,r1,q1⟩=>Aa (Nb (Ac ?_))));exact thn (hr pos aa s1 σ H1 _ I1 q1) λus s2 ⟨xs,H2,I2,r2,q2⟩=>#[x::xs,H2,I2,.cons r1 r2,q2]
variable {g:List Value->List Value->List Value}{gV:List V->List V->List V}
end
structure aQ(N P:List Str)(sc:Scope):Prop where
 kind:sc.kind=.function:=by rfl
 co:sc.isCoroutine=false:=by rfl
 gen:sc.isGenerator=false:=by rfl
 nd:N.Nodup:=by decide+kernel
 pre:N.take P.length=P:=by rfl
 par:∀x∈P,sc.names.lookup x=some .local∨sc.names.lookup x=some .cell:=by decide+kernel
 nofree:∀y∈sc.names,y.2≠.free:=by decide+kernel
theorem aCm{kindOf:Str->Option Kd}{x:Str}:∀{binds:List (Str×Value)}{m:Str->#v[10]},(∀v,(x,v)∉binds)->Aac kindOf binds m x=m x
 | [],_,_=>rfl
 |(n,v)::r,m,h=>by
  unfold Aac;rw[aCm λw hw=>h w (Af _ hw)];split
  ·have:x≠n:=by rintro rfl;exact h v Ah
   simp[this]
  ·rfl
theorem aCk{kindOf:Str->Option Kd}{x:Str}:∀{binds:List (Str×Value)}{m:Str->#v[10]},(∀v,(x,v)∉binds)->Aad kindOf binds m x=m x
 | [],_,_=>rfl
 |(n,v)::r,m,h=>by
  unfold Aad;rw[aCk λw hw=>h w (Af _ hw)];split
  ·rfl
  ·have:x≠n:=by rintro rfl;exact h v Ah
   simp[this]
theorem aCl{kindOf:Str->Option Kd}{x:Str}{v:Value}:∀{P:List Str}{vs:List Value}{i:Nat}{m:Str->#v[10]},P.Nodup->P[i]? =some x->vs[i]? =some v->kindOf x=some .local->
  Aac kindOf (P.zip vs) m x=some v
 | [],_,_,_,_,h,_,_=>by simp at h
 |_::_,[],_,_,_,_,h,_=>by simp at h
 |p::P,w::vs,0,m,nd,h1,h2,hk=>by
  simp at h1 h2;subst h1;subst h2;show Aac kindOf ((p,w)::P.zip vs) m p=_;unfold Aac;rw[aCm λv hv=>(Dx.mp nd).1 (Qr hv).1,Ab1 hk];simp
 |p::P,w::vs,i+1,m,nd,h1,h2,hk=>by
  show Aac kindOf ((p,w)::P.zip vs) m x=_;unfold Aac;exact aCl (i:=i) (Dx.mp nd).2 (by simpa using h1) (by simpa using h2) hk
theorem aCj{kindOf:Str->Option Kd}{x:Str}{v:Value}:∀{P:List Str}{vs:List Value}{i:Nat}{m:Str->#v[10]},P.Nodup->P[i]? =some x->vs[i]? =some v->kindOf x≠some .local->
  Aad kindOf (P.zip vs) m x=some v
 | [],_,_,_,_,h,_,_=>by simp at h
 |_::_,[],_,_,_,_,h,_=>by simp at h
 |p::P,w::vs,0,m,nd,h1,h2,hk=>by
  simp at h1 h2;subst h1;subst h2;show Aad kindOf ((p,w)::P.zip vs) m p=_;unfold Aad;rw[aCk λv hv=>(Dx.mp nd).1 (Qr hv).1,Ab0 hk];simp
 |p::P,w::vs,i+1,m,nd,h1,h2,hk=>by
  show Aad kindOf ((p,w)::P.zip vs) m x=_;unfold Aad;exact aCj (i:=i) (Dx.mp nd).2 (by simpa using h1) (by simpa using h2) hk
def start(N:List Str)(vs:List V):St:=vs.map some++Bi (N.length-vs.length) none
def aIm(CX:CXT)(P:An)(w:Bh)(K:Ad)(mg:Str->#v[10])(base:Heap)(N:List Str)(qual:Str)(scope:Scope)(f:Addr)(cd:Value)(A:Cm)(outer:List Env)(s:Shared)(H:Hp)(E:XK):Cx where
 prog:=P
 w:=w
 K:=K
 mg:=mg
 base:=base
 A:=A.deeper (Ro qual scope #v[0] f cd)
 N:=N
 s₀:=s
 H₀:=H
 env:=Ro qual scope #v[0] f cd
 outer:=outer
 stack:=Ro qual scope #v[0] f cd::outer
 ex:=[]
 calm:=true
 fn:=λ_=>true
 pn:=[]
 xe:=λe s'=>Bb (model P w) (A.deeper (Ro qual scope #v[0] f cd)) (leaving (Ro qual scope #v[0] f cd) e) (λ_ s''=>CX outer H s E e s'') (λe' s''=>CX outer H s E e' s'') s'
def aV{sc:Scope}{n:Nat}{x:Str}(h:sc.names.lookup x=some .cell):∃c,(Ft n sc.names []).lookup x=some c:=by
 have q:=Md sc.names n [] (.inl h);exact Ll.mp q
def aL8{CX:CXT}{P:An}{w:Bh}{K:Ad}{qual:Str}{scope:Scope}{f:Addr}{cd:Value}{A:Cm}{outer:List Env}{s s1:Shared}{H:Hp}{E:XK}{vs:List V}
  (S:aQ N ps scope) (hd:A.handled=none) (e0:aHw P w K mg base A outer s H) (hl:vs.length=ps.length) (r:Vals vs us)
  (x:InCallC s #v[0] (Aac (Ro qual scope #v[0] f cd).kindOf (ps.zip us) λ_=>none) (Ft (#v[0]+1) scope.names []) (Aad (Ro qual scope #v[0] f cd).kindOf (ps.zip us) λ_=>none) s1):
  Inv (aIm CX P w K mg base N qual scope f cd A outer s H E) [] (start N vs) H s1:=by
 have hpl:ps.length<=N.length:=by have:=Ab9 Fm S.pre;rw[Gg]at this;lia
 obtain⟨h1,tk,rfl,hk⟩:=x.done;have noA:∀b:Addr,b∉(aIm CX P w K mg base N qual scope f cd A outer s H E).ex:=λb z=>Ab2 (show b∈([]:List Addr)from z) (by simp);refine⟨#[e0.mod,S.kind,rfl,rfl,Ak _,λy z c h1 h2=>?_,λy hy=>?_,λy c _ h=>?_,λ_=>hd,Around.frames_deeper e0.frames,.inr #[rfl,rfl],λb z=>Ab2 z (noA b),e0.bs,e0.bsz,λb _ _=>noA b,λb z=>Ab2 z (noA b),e0.funs,e0.frf],
  rfl,e0.bare,Un.kept hk,#[_,x.toInCall.ns,λi y v h1 h2 h3=>?_],λy c h=>#[_,x.cell y c h],e0.hok.fresh (Ak _),λy c h=>?_,λp hp=>Ab2 (show p∈([]:#v[6])from hp) (by simp),e0.hok.kept hk,?_⟩
 ·exact name_of_addr x.apart (Dj h1) (Dj h2)
 ·have hy:scope.names.lookup y=some .cell∨scope.names.lookup y=some .free:=hy;rcases hy with hy|hy
  ·exact aV hy
  ·exact Ab2 rfl (S.nofree _ (Dj hy))
 ·exact Gn (x.above y c (Dj h))
 ·have hi:i<vs.length:=by
   unfold start at h2;by_cases hi:i<vs.length
   ·exact hi
   ·rw[Ek (by simpa using hi)]at h2;rw[Gj]at h2;split at h2<;>cases h2
  have ha:vs[i]? =some v:=by
   unfold start at h2;rw[Dz (by simpa using hi),Bg]at h2;cases e:vs[i]? with
   |none=>rw[e]at h2;cases h2
   |some a=>rw[e]at h2;cases h2;rfl
  obtain⟨u,hu,rv⟩:=r.get ha;have hp:ps[i]? =some y:=by
   rw[<-S.pre,List.getElem?_take_of_lt ∅];exact h1
  have ndP:ps.Nodup:=by rw[<-S.pre];exact S.nd.sublist (Pg _ _)
  refine#[u,rv,?_];rcases S.par y (Ai hp)with k|k
  ·exact .inl #[k,aCl ndP hp hu k]
  ·obtain⟨c,e⟩:=aV (n:=#v[0]+1) k;refine .inr #[.inl k,c,e,?_];have q:=x.cell y c e;rw[aCj ndP hp hu (by show scope.names.lookup y≠_;rw[k];decide)]at q;exact q
 ·exact e0.hok.fresh (Gn (x.above y c (Dj h)))
 ·unfold start;show _=N.length;rw[Am,Ab,Ef]
  lia
def aZ2{CX:CXT}{P:An}{w:Bh}{K:Ad}{f:Addr}{name qual:Str}{params:Arguments}{scope:Scope}{dV kV doc pm ae ct oc:Value}{an od:Option Addr}
  {osl:Array (#v[10])} {sp:Sp} (lk:K.lookup f=some #[oc,od,.func (Gi name qual params body scope dV kV doc pm an ae ct),osl]) (hcd:Qg K ae qual=true) (S:aQ N ps scope)
  (len:∀vs H Q E,sp vs H Q E->vs.length=ps.length)
  (hbody:∀(A:Cm)(outer:List Env)(s:Shared)(H:Hp)(vs:List V)(Q:VK)(E:XK),eZ k (A.deeper (Ro qual scope #v[0] f ae))->sp vs H Q E->
   ∃t,PSs (aIm CX P w K mg base N qual scope f ae A outer s H E) body t/\t {nx:=λ_ H'=>Q .non H',rt:=Q} (start N vs) H):
  bJ P w K mg base CX (k+1) f (Gi name qual params body scope dV kV doc pm an ae ct) ps sp:=by
 refine#[len,λA outer s H args us vs Q E hr e0 hb r hsp=>?_];have hl:=len _ _ _ _ hsp;have KX:K.In s.heap:=e0.mod.kin.keeps λb o e=>(e0.bs b o e).1;have lim:s.heap.NoLimit:=e0.mod.nolimit.keeps λb o e=>(e0.bs b o e).1;have hkind:∀y∈ps.zip us,scope.names.lookup y.1=some .local∨(scope.names.lookup y.1=some .cell/\((Ft (#v[0]+1) scope.names []).lookup y.1).isSome=true):=λ⟨n,v⟩ hy=>by
  rcases S.par n (Qr hy).1 with q|q
  ·exact .inl q
  ·exact .inr #[q,Md _ _ _ (.inl q)]
 refine codeAny_call_function hr.depth (KX _ _ lk) rfl S.co S.gen rfl (PySem.W.codeRec_of KX hcd) (hb _ _ _ _ ?_);refine wpAny_newFunctionEnv_cells S.kind hkind λenv he s1 x=>?_;subst he;refine#[lim.keeps x.toInCall.keep,codeAny_func ?_];obtain⟨t,ht,hq⟩:=hbody A outer s H vs Q E (hr.deeper _) hsp;have I:Inv (aIm CX P w K mg base N qual scope f ae A outer s H E) [] (start N vs) H s1:=aL8 S hr.hd e0 hl r x;refine Gd (ht [] s1 (start N vs) H _ I hq) (λfl s' hs=>?_) λe s' hs=>hs;have fin:∀{σ':St}{H':Hp}{v:V}{u:Value},Inv (aIm CX P w K mg base N qual scope f ae A outer s H E) [] σ' H' s'->RelV v u->Q v H'->CE outer P w H s Q u s':=
  λ{σ' H' v u} J rv q=>#[v,H',J.os,J.bare,J.base,J.hok,rv,q]
 cases fl with
 |ret u=>
  obtain⟨v,σ',H',J,rv,q⟩:=hs;exact fin J rv q
 |next=>
  obtain⟨σ',H',J,q⟩:=hs;exact fin (v:=V.non) (u:=Cb) J rfl q
 |brk=>
  obtain⟨_,_,_,q⟩:=hs;exact Hg q
 |cont=>
  obtain⟨_,_,_,q⟩:=hs;exact Hg q
section
variable {X:Cx}{x:Str}{p pos:Pos}{e:Cr}{es:List Cr}{t:TA}{id T:String}{r:List V->Hp->VK->Prop}
def tCB(r:List V->Hp->VK->Prop)(t:TA):TE:=λσ H Q=>t σ H λvs H1=>r vs H1 Q
def iI(hc:dR X (.builtin id) r)(hg:Gl X x)(hm:X.mg x=none)(hv:Fg x=some (.builtin id))(ha:PA X (e::es) t)(hn:x≠"__name__":=by decide)(hdb:ND x:=by decide)
  (he:SE X e es:=by rfl) (hpl:BT X pos es:=by rfl):PE X (.Call (.Name x p) (e::es) [] pos) (tCB r t):=by
 intro aa s σ H Q I h;refine Hc (pB I hg hm hv ?_ hn hdb);exact Aa3 (thn (ha pos aa s σ H _ I h) λus s1 ⟨vs,H1,I1,r1,q1⟩=>hc aa s1 σ H1 vs us Q I1 r1 q1) he hpl
def gJ(hc:dR X (.type T) r)(hg:Gl X x)(hm:X.mg x=none)(hv:Fg x=some (.type T))(ha:PA X (e::es) t)(hn:x≠"__name__":=by decide)(hdb:ND x:=by decide)
  (he:SE X e es:=by rfl) (hpl:BT X pos es:=by rfl):PE X (.Call (.Name x p) (e::es) [] pos) (tCB r t):=by
 intro aa s σ H Q I h;refine Hc (pB I hg hm hv ?_ hn hdb);exact Eb (thn (ha pos aa s σ H _ I h) λus s1 ⟨vs,H1,I1,r1,q1⟩=>hc aa s1 σ H1 vs us Q I1 r1 q1) he hpl
end
end L2
namespace HT
variable {Q:#v[5]}{lo hi:Option Int}
open PySem PyProof.Rows
section
open PySem.SeqAt
open PySem.AutoSeq1 (wpAny_loadPart')
open PySem.MeetsSeq PySem.MeetsSeq2 PySem.MeetsSeq3
end
variable {prog:An}{w:Bh}{A:Cm}{E:#v[5]}{s:Shared}
def aSm(ht:IsTup s.heap t vs.toArray)(hb:IsTup s.heap b ws.toArray)(hv:vs≠[])
  (h1:ws=[]->Q (.ref t) s) (h2:ws≠[]->Q (.ref #v[0]) {s with heap:=s.heap.push {cls:=.type "tuple",data:=.seq (vs++ws).toArray}})
  (hsz:vs.length+ws.length<=sizeLine):Bb #v[b] A (Jk .Add (.ref t) (.ref b)) Q E s:=by
 obtain⟨⟨cls,dd,data,sl⟩,ho,hc,n,hd⟩:=id ht;obtain⟨⟨cls2,dd2,data2,sl2⟩,ho2,hc2,n2,hd2⟩:=id hb;simp only at hc hd hc2 hd2;subst hc hd hc2 hd2;have e:vs.toArray++ws.toArray=(vs++ws).toArray:=by simp
 by_cases hw:ws=[]
 ·exact Wy #[_,ho,rfl] #[_,ho2,rfl] Rz Vq Me Lv (Lj _ _)
   (tuple_addW1 t b vs.toArray ws.toArray n n2 dd dd2 sl sl2 (by simpa using hv) (by simp[hw])) #[ho,ho2,h1 hw]
 ·refine Wy #[_,ho,rfl] #[_,ho2,rfl] Rz Vq Me Lv (Lj _ _)
   (tuple_addW2 t b vs.toArray ws.toArray n n2 dd dd2 sl sl2 (by simpa using hv) (by simpa using hw) (by rw[Al,Al];exact hsz)) #[ho,ho2,?_]
  rw[e];exact h2 hw
def sIx(n d:Nat):Option Int->Nat
 |none=>d
 |some v=>if v<0 then(v+(n:Int)).toNat else min v.toNat n
def aBe(n d:Nat):sIx n d none=d:=rfl
def zV(n d k:Nat):sIx n d (some (k:Int))=min k n:=by
 show(if(k:Int)<0 then((k:Int)+(n:Int)).toNat else min (k:Int).toNat n)=min k n;rw[Ab0 ∅,Ck]
def aYg(n d:Nat)(hd:d<=n)(o:Option Int):sIx n d o<=n:=by
 cases o with
 |none=>exact hd
 |some v=>
  show(if v<0 then(v+(n:Int)).toNat else min v.toNat n)<=n;by_cases hv:v<0
  ·rw[Ab1 hv];lia
  ·rw[Ab0 hv];exact Nat.min_le_right _ _
def aKk(v:Int)(n d:Nat):(if v<0 then max (v+(n:Int)) 0 else min v (n:Int))=((sIx n d (some v):Nat):Int):=by
 show(if v<0 then max (v+(n:Int)) 0 else min v (n:Int))=(((if v<0 then(v+(n:Int)).toNat else min v.toNat n):Nat):Int);by_cases hv:v<0
 ·simp only[Ab1 hv];lia
 ·simp only[Ab0 hv];lia
def aH6(lo hi:Option Int)(n:Nat):Kh lo hi 1 (n:Int)=(((sIx n 0 lo:Nat):Int),((sIx n n hi:Nat):Int)):=by
 have h1:¬((1:Int)<0):=by lia
 unfold Kh;simp only[h1,Ac1];refine Qi ?_ ?_
 ·cases lo with
  |none=>rfl
  |some v=>exact aKk v n 0
 ·cases hi with
  |none=>rfl
  |some v=>exact aKk v n n
def aJh(i j:Nat):Hx (i:Int) (j:Int) 1=j-i:=by
 unfold Hx;have h1:(1:Int)>0:=by lia
 simp only[h1,Ac2,Int.ediv_one];split<;>lia
def aBh{Q:Option Int->Shared->Prop}(p:Vi v o)(h:Q o s):Bb #v[b] A (Aas v) Q E s:=by
 cases p with
 |none=>exact slicePart_none h
 |int i t=>exact slicePart_int h
def yD{sl:Addr}{vl vu:Value}{n:Nat}{Q:Int×Int×Nat->Shared->Prop}(hs:s.heap.IsSliceOf sl vl vu .none)(pl:Vi vl lo)(pu:Vi vu hi)
  (h:Q (((sIx n 0 lo:Nat):Int),1,sIx n n hi-sIx n 0 lo) s):Bb #v[b] A (Ob (.ref sl) (pure (n:Int))) Q E s:=by
 obtain⟨os,hos,hcs,hds⟩:=id hs;unfold Ob Aat;refine Aa (Aa (Du hos hds (x:=vl) rfl (Aa (Du hos hds (x:=vu) rfl (Aa (Du hos hds (x:=.none) rfl (Ac ?_)))))));refine Aa (slicePart_none ?_);show Bb _ _ (if((1:Int)==0)=true then _ else _) _ _ s;rw[Ab0 ⋯];refine Aa (aBh pl (Aa (aBh pu (Aa (Ac ?_)))));show Bb _ _ (match Kh lo hi 1 (n:Int)with|(lo,hi)=>pure (lo,(1:Int),Hx lo hi 1)) _ _ s;rw[aH6 lo hi n];show Bb _ _ (pure (((sIx n 0 lo:Nat):Int),(1:Int),Hx ((sIx n 0 lo:Nat):Int) ((sIx n n hi:Nat):Int) 1)) _ _ s;rw[aJh];exact Ac h
def aQq(xs:Array Value)(i k:Nat):((Bq k).filterMap λ(m:Nat)=>xs[((i:Int)+(m:Int)*1).toNat]?).toArray=((xs.toList.drop i).take k).toArray:=by
 have e:(λ(m:Nat)=>xs[((i:Int)+(m:Int)*1).toNat]?)=λm=>xs[i+m]? :=by
  funext m;have:((i:Int)+(m:Int)*1).toNat=i+m:=by lia
  rw[this]
 rw[e];have:=pick_run xs i k;rw[List.filterMap_map]at this;have e2:((λx=>xs[x]?)∘λx=>i+x)=λm=>xs[i+m]? :=rfl;rw[e2]at this;rw[this]
def vV{t sl:Addr}{items:Array Value}{vl vu:Value}(ht:IsTup s.heap t items)(hs:s.heap.IsSliceOf sl vl vu .none)(pl:Vi vl lo)(pu:Vi vu hi)
  (hw:¬(sIx items.size 0 lo=0/\sIx items.size items.size hi=items.size))
  (h:Q (.ref #v[0]) {s with heap:=s.heap.push {cls:=.type "tuple",data:=.seq ((items.toList.drop (sIx items.size 0 lo)).take (sIx items.size items.size hi-sIx items.size 0 lo)).toArray}})
  (hsz:items.size<=sizeLine):Bb #v[b] A (Qy (.ref t) (.ref sl)) Q E s:=by
 have htake:sizeOk (.seq ((items.toList.drop (sIx items.size 0 lo)).take (sIx items.size items.size hi-sIx items.size 0 lo)).toArray):=by
  show((items.toList.drop (sIx items.size 0 lo)).take (sIx items.size items.size hi-sIx items.size 0 lo)).toArray.size<=sizeLine;rw[Al,Gg,Fs,Az]
  lia
 have hj:sIx items.size items.size hi<=items.size:=aYg _ _ (Ak _) hi;obtain⟨os,hos,hcs,hds⟩:=id hs;have hTs:s.TypeIs (.ref sl) "slice":=#[os,hos,hcs];unfold Qy
 try with_reducible refine Ce ?_
 first|refine Aa (Ac ?_)|skip
 refine Aa (wpAny_sequenceKey ht.typeIs ⋯ ?_);refine Aa (Cw (name:=Eh "__getitem__") ht.typeIs Jm
  (Bw Jm ht.typeIs entry_tuple_getitem ?_ (args_tuple_getitem _ _)))
 show Bb _ _ (Oa (.ref t)>>=_) _ _ s;refine Aa (tupleItemsOf_ ht ?_);refine Aa (Jb hTs ?_);rw[Ab1 ⋯];refine Aa (yD hs pl pu ?_);have hno:¬((((sIx items.size 0 lo:Nat):Int)==0 && (1:Int)==1 && (sIx items.size items.size hi-sIx items.size 0 lo)==items.size)=true):=by
  intro q;rw[Kl,Kl]at q;have q1:((sIx items.size 0 lo:Nat):Int)=0:=Ab8 q.1.1;have q2:sIx items.size items.size hi-sIx items.size 0 lo=items.size:=Ab8 q.2;exact hw #[∅,∅]
 show Bb _ _ (if(((sIx items.size 0 lo:Nat):Int)==0 && (1:Int)==1 && (sIx items.size items.size hi-sIx items.size 0 lo)==items.size)=true then _ else _) _ _ s;rw[Ab0 hno,aQq];first
  |exact Aa (m:=Ii _) (Cd (Ac ⟨_,rfl,Ac h⟩) htake)
  |exact Aa (m:=Ii _) (Cd (Aa (Ac (Ac ⟨_,rfl,Ac h⟩))) htake)
  |exact Aa (Aa (m:=Ii _) (Cd (Ac (Ac ⟨_,rfl,Ac h⟩)) htake))
  |exact Aa (Aa (m:=Ii _) (Cd (Ac ⟨_,rfl,Ac h⟩) htake))
end HT
namespace L2
variable {aa:#v[6]}{ab its':List Value}{s:Shared}{us:List Value}{α:Type}{n:Nat}
open PySem PySem.Spec PyProof.Rows
abbrev TO:=St->Hp->(Option Int->Hp->Prop)->Prop
def PO(X:Cx)(e:Option Cr)(t:TO):Prop:=
 ∀(aa:#v[6])(s:Shared)(σ:St)(H:Hp)(Q:Option Int->Hp->Prop),#v[3]->t σ H Q->
  Bb #v[a] X.A (evalPart e X.env) (λu s'=>∃o H',Inv X aa σ H' s'/\Vi u o/\Q o H') X.xe s
def aUh:TO:=λ_ H Q=>Q none H
def bBl(t:TE):TO:=λσ H Q=>t σ H λx H1=>∃i,x=.int i/\Q (some i) H1
def intsAre_of:∀{us:List Value},Vals (ns.map V.int) us->Nm us ns:=by
 induction ns with
 |nil=>intro us r;rw[Gz]at r;cases r;exact .nil
 |cons n ns ih=>
  intro us r;rw[Bj]at r;cases r with
  |cons r1 r2=>
   obtain⟨t,e⟩:=r1;subst e;exact .cons n t (ih r2)
variable {X:Cx}{e:Cr}{te:TE}{lo hi:Option Cr}{tl th:TO}{pos p2:Pos}
def aT0:PO X none aUh:=by
 intro aa s σ H Q I h;rw[evalPart_none];exact Ac #[none,H,I,.none,h]
def aT1(h:PE X e te):PO X (some e) (bBl te):=by
 intro aa s σ H Q I hw;rw[evalPart_some];refine thn (h aa s σ H _ I hw) λu s1 ⟨x,H1,I1,r1,q1⟩=>?_;obtain⟨i,rfl,q⟩:=q1;obtain⟨t,rfl⟩:=r1;exact#[some i,H1,I1,.int i t,q]
def SlR(X:Cx)(r:V->Option Int->Option Int->Hp->VK->Prop):Prop:=
 ∀(aa:#v[6])(s:Shared)(σ:St)(H:Hp)(x:V)(v vl vu:Value)(lo hi:Option Int)(sl:Addr)(Q:VK),#v[3]->RelV x v->s.heap.IsSliceOf sl vl vu .none->Vi vl lo->Vi vu hi->r x lo hi H Q->
  ∃T id,On (.type T) "__getitem__"=pure (some (.builtin id))/\s.TypeIs v T/\Bb #v[a] X.A (Qy v (.ref sl)) (EP X aa σ Q) X.xe s
def SlR.or(h:SlR X r)(h':SlR X r'):SlR X (λx lo hi H Q=>r x lo hi H Q∨r' x lo hi H Q):=by
 intro aa s σ H x v vl vu lo hi sl Q I rx hs pl pu q;rcases q with q|q
 ·exact h aa s σ H x v vl vu lo hi sl Q I rx hs pl pu q
 ·exact h' aa s σ H x v vl vu lo hi sl Q I rx hs pl pu q
def tSl(r:V->Option Int->Option Int->Hp->VK->Prop)(te:TE)(tl th:TO):TE:=λσ H Q=>te σ H λx H1=>tl σ H1 λl H2=>th σ H2 λu H3=>r x l u H3 Q
def aGz{r:V->Option Int->Option Int->Hp->VK->Prop}(hr:SlR X r)(he:PE X e te)(hl:PO X lo tl)(hu:PO X hi th):PE X (.Subscript e (.Slice lo hi none p2) pos) (tSl r te tl th):=by
 intro aa s σ H Q I h;refine Aag (thn (he aa s σ H _ I h) λv s1 ⟨x,H1,I1,r1,q1⟩=>?_);refine wpAny_Slice (thn (hl aa s1 σ H1 _ I1 q1) λvl s2 ⟨l,H2,I2,pl,q2⟩=>thn (hu aa s2 σ H2 _ I2 q2) λvu s3 ⟨u,H3,I3,pu,q3⟩=>?_);rw[evalPart_none];refine Ac ?_;have I4:Inv X aa σ H3 {s3 with heap:=s3.heap.push {cls:=.type "slice",data:=.fields (List.toArray [vl,vu,.none])}}:=I3.kept (t':=s3.toks) λb ob q=>Ae _ q;obtain⟨T,id,hT,ht,hg⟩:=hr aa {s3 with heap:=s3.heap.push {cls:=.type "slice",data:=.fields (List.toArray [vl,vu,.none])}} σ H3 x v vl vu l u s3.heap.objs.size Q I4 r1 (Zj ..) pl pu q3;show Bb #v[a] X.A (Vp e (.Slice lo hi none p2) v (.ref s3.heap.objs.size)) (EP X aa σ Q) X.xe {s3 with heap:=s3.heap.push {cls:=.type "slice",data:=.fields (List.toArray [vl,vu,.none])}};exact tail_any (ops:=[.ref s3.heap.objs.size,v]) ht hT hg (by with_unfolding_all rfl)
def aAr(xs:List V)(lo hi:Option Int):List V:=(xs.drop (HT.sIx xs.length 0 lo)).take (HT.sIx xs.length xs.length hi-HT.sIx xs.length 0 lo)
def yN(xs:List V)(lo hi:Option Int):(aAr xs lo hi).length<=xs.length:=by
 unfold aAr;rw[Gg,Fs]
 lia
inductive aVh(K:Ad)(x:V)(lo:Option Int)(hi:Option Int)(H:Hp)(Q:VK):Prop
 |mk (a xs:_) (q0_:x=.ref a) (q1_:SqT K H a xs) (q2_:¬(HT.sIx xs.length 0 lo=0/\HT.sIx xs.length xs.length hi=xs.length)) (q3_:∀p,H p=none->Q (.ref p) (upd H p (.tup (aAr xs lo hi)))):aVh K x lo hi H Q
def bCy(K:Ad):V->Option Int->Option Int->Hp->VK->Prop:=λx lo hi H Q=>aVh K x lo hi H Q
def aRe:SlR X (bCy X.K):=by
 intro aa s σ H x v vl vu lo hi sl Q I rx hs pl pu h;obtain⟨a,xs,rfl,hx,hw,q⟩:=h;cases rx;obtain⟨ab,r,ht,hz⟩:=I.tuple hx;have hlen:ab.toArray.size=xs.length:=by rw[Al];exact r.length.symm
 refine#["tuple",_,Jm.lookup,ht.typeIs,?_];refine HT.vV ht hs pl pu (by rw[hlen];exact hw) ?_ (by rw[hlen];exact hz);rw[hlen];refine#[.ref #v[0],_,I.laid (t':=s.toks) (o:=.tup (aAr xs lo hi)) (λb ob q=>Ae _ q) (Ak _) ?_,rfl,q _ (I.hok.fresh (Ak _))];exact#[Dd (yN xs lo hi) hz,_,(r.drop (HT.sIx xs.length 0 lo)).take (HT.sIx xs.length xs.length hi-HT.sIx xs.length 0 lo),Xf _ _]
inductive aNt(K:Ad)(x:V)(y:V)(H:Hp)(Q:VK):Prop
 |mk (a b xs ys:_) (q0_:x=.ref a) (q1_:y=.ref b) (q2_:SqT K H a xs) (q3_:SqT K H b ys) (q4_:xs≠[]) (q5_:xs.length+ys.length<=sizeLine) (q6_:(ys=[]->Q (.ref a) H)) (q7_:(ys≠[]->∀p,H p=none->Q (.ref p) (upd H p (.tup (xs++ys))))):aNt K x y H Q
def aWa(K:Ad):R2:=λx y H Q=>aNt K x y H Q
def Vals.nil_iff(r:Vals xs us):us=[]↔xs=[]:=by
 cases r with
 |nil=>simp
 |cons _ _=>simp
def aTm:OpR X (Jk .Add) (aWa X.K):=by
 intro aa s σ H x y v u Q I rx ry h;obtain⟨a,b,xs,ys,rfl,rfl,ha,hb,hx,hz,q1,q2⟩:=h;cases rx;cases ry;obtain⟨ab,r1,p1,_⟩:=I.tuple ha;obtain⟨its2,r2,p2,_⟩:=I.tuple hb;refine HT.aSm p1 p2 (λz=>hx (r1.nil_iff.mp z)) (λz=>#[.ref a,H,I,rfl,q1 (r2.nil_iff.mp z)]) (λz=>?_) (by rw[<-r1.length, <-r2.length];exact hz);refine#[.ref #v[0],_,I.laid (t':=s.toks) (o:=.tup (xs++ys)) (λb ob q=>Ae _ q) (Ak _) ?_,rfl,q2 (λw=>z (r2.nil_iff.mpr w)) _ (I.hok.fresh (Ak _))];exact#[by rw[Am];exact hz,_,r1.append r2,Xf _ _]
def ixN(n:Nat)(i:Int):Option Nat:=if 0<=i then(if i<n then some i.toNat else none)else if-(n:Int)<=i then some (i+n).toNat else none
def atI{α:Type}(xs:List α)(i:Int):Option α:=(ixN xs.length i).bind λj=>xs[j]?
def aKy(h:ixN n i=some j):seqIndex? i n=some j/\j<n/\ -(n:Int)<=i/\i<n:=by
 unfold ixN at h;by_cases h0:0<=i
 ·rw[Ab1 h0]at h;by_cases h1:i<n
  ·rw[Ab1 h1]at h;have e:i.toNat=j:=Bs h;exact#[by rw[Xx h0 h1,e],∅,∅,h1]
  ·rw[Ab0 h1]at h;cases h
 ·rw[Ab0 h0]at h;by_cases h1: -(n:Int)<=i
  ·rw[Ab1 h1]at h;have e:(i+n).toNat=j:=Bs h;exact#[by rw[Wt ∅ h1,e],∅,h1,∅]
  ·rw[Ab0 h1]at h;cases h
def aDq{xs:List α}{i:Int}{v:α}(h:atI xs i=some v):∃j,seqIndex? i xs.length=some j/\xs[j]? =some v/\j<xs.length/\ -(xs.length:Int)<=i/\i<xs.length:=by
 unfold atI at h;cases e:ixN xs.length i with
 |none=>rw[e]at h;cases h
 |some j=>
  rw[e]at h;obtain⟨h1,h2,h3,h4⟩:=aKy e;exact#[j,h1,h,h2,h3,h4]
def bQ{xs:List α}{j:Nat}{v:α}(h:xs[j]? =some v):atI xs (j:Int)=some v:=by
 have hj:j<xs.length:=(Ay.mp h).1;have e:ixN xs.length (j:Int)=some j:=by
  unfold ixN;rw[Ab1 ∅,Ab1 ∅];simp
 unfold atI;rw[e];exact h
def zM(b:Cr):Prop:=∀o i,subscripted b false o i=operate [o,i] (Qy o i)
def IxR(X:Cx)(r:R2):Prop:=
 ∀(value slice:Cr)(aa:#v[6])(s:Shared)(σ:St)(H:Hp)(x y:V)(v u:Value)(Q:VK),#v[3]->RelV x v->RelV y u->r x y H Q->
  subscripted slice false v u=operate [v,u] (Qy v u)->Bb #v[a] X.A (Vp value slice v u) (EP X aa σ Q) X.xe s
def MtR(X:Cx)(id:String)(r:V->List V->Hp->VK->Prop):Prop:=
 ∀(aa:#v[6])(s:Shared)(σ:St)(H:Hp)(x:V)(xs:List V)(v:Value)(us:List Value)(Q:VK),#v[3]->RelV x v->Vals xs us->r x xs H Q->
  Bb #v[a] X.A (call (.builtin id) (v::us)) (EP X aa σ Q) X.xe s
def bA4(K:Ad):List V->Hp->VK->Prop:=λxs H Q=>∃p ys,xs=[.ref p]/\(SqL K H p ys∨SqT K H p ys)/\Q (.int ys.length) H
def bA5(K:Ad):List V->Hp->VK->Prop:=λxs H Q=>∃p ys,xs=[.ref p]/\(SqL K H p ys∨SqT K H p ys)/\∀l,H l=none->Q (.ref l) (upd H l (.lst ys))
section
variable {X:Cx}{a b:Cr}{ta tb:TE}{pos:Pos}
def IxR.or(h:IxR X r)(h':IxR X r'):IxR X (λx y H Q=>r x y H Q∨r' x y H Q):=by
 intro value slice aa s σ H x y v u Q I rx ry q hs;rcases q with q|q
 ·exact h value slice aa s σ H x y v u Q I rx ry q hs
 ·exact h' value slice aa s σ H x y v u Q I rx ry q hs
def uL{r:R2}(hr:IxR X r)(ha:PE X a ta)(hb:PE X b tb)(hs:zM b):PE X (.Subscript a b pos) (tOp r ta tb):=by
 intro aa s σ H Q I h;exact Aag (aWu ha hb I h λv u s2 x y H2 I2 rx ry q=>hr a b aa s2 σ H2 x y v u Q I2 rx ry q (hs _ _))
inductive aVb(K:Ad)(x:V)(y:V)(H:Hp)(Q:VK):Prop
 |mk (p xs i v:_) (q0_:x=.ref p) (q1_:y=.int i) (q2_:SqL K H p xs) (q3_:atI xs i=some v) (q4_:Q v H):aVb K x y H Q
def aYa(K:Ad):R2:=λx y H Q=>aVb K x y H Q
inductive aVd(K:Ad)(x:V)(y:V)(H:Hp)(Q:VK):Prop
 |mk (p xs i v:_) (q0_:x=.ref p) (q1_:y=.int i) (q2_:SqT K H p xs) (q3_:atI xs i=some v) (q4_:Q v H):aVd K x y H Q
def aYb(K:Ad):R2:=λx y H Q=>aVd K x y H Q
inductive aVc(x:V)(y:V)(H:Hp)(Q:VK):Prop
 |mk (z i c:_) (q0_:x=.str z) (q1_:y=.int i) (q2_:z.length<=sizeLine) (q3_:atI z.cps.toList i=some c) (q4_:Q (.str ⟨(List.toArray [c])⟩) H):aVc x y H Q
def bA3:R2:=λx y H Q=>aVc x y H Q
def lB:IxR X (aYa X.K):=by
 intro value slice aa s σ H x y v u Q I rx ry h hs;obtain⟨p,xs,i,z,rfl,rfl,hq,he,q⟩:=h;cases rx;obtain⟨t,rfl⟩:=ry;obtain⟨ab,r,pl,hz⟩:=I.list hq;obtain⟨j,h1,h2,h3,h4,h5⟩:=aDq he;obtain⟨w,ew,rw'⟩:=r.get h2;have hl:=r.length;have hn:=aA0;have fin:EP X aa σ Q w s:=#[z,H,I,rw',q];by_cases h0:0<=i
 ·have hj:i.toNat=j:=by
   rw[Xx h0 h5]at h1;exact Bs h1
  exact item_listR pl.isList h0 ∅ (by rw[hj];simpa using ew) fin hs
 ·have hj:(i+(ab.toArray.size:Int)).toNat=j:=by
   rw[Wt ∅ h4]at h1;rw[Al, <-hl];exact Bs h1
  exact Wh (x:=w) pl.isList.typeIs slot_list_getitem.lookup
   (wpAny_getItem_list_neg (Q:=λr s'=>r=w/\EP X aa σ Q r s') pl.isList ∅ (by rw[Al]<;>lia) ∅ (by rw[hj];simpa using ew) #[rfl,fin]) hs
def aW5:IxR X (aYb X.K):=by
 intro value slice aa s σ H x y v u Q I rx ry h hs;obtain⟨p,xs,i,z,rfl,rfl,hq,he,q⟩:=h;cases rx;obtain⟨t,rfl⟩:=ry;obtain⟨ab,r,pl,hz⟩:=I.tuple hq;obtain⟨j,h1,h2,h3,h4,h5⟩:=aDq he;obtain⟨w,ew,rw'⟩:=r.get h2;have hl:=r.length;have hn:=aA0;have fin:EP X aa σ Q w s:=#[z,H,I,rw',q];exact Wh (x:=w) pl.typeIs slot_tuple_getitem.lookup
  (getItem_tuple (j:=j) (Q:=λr s'=>r=w/\EP X aa σ Q r s') pl ∅ ∅ (by rw[Al, <-hl];exact h1) (by simpa using ew) #[rfl,fin]) hs
def aW4:IxR X bA3:=by
 intro value slice aa s σ H x y v u Q I rx ry h hs;obtain⟨z,i,c,rfl,rfl,hz,he,q⟩:=h;obtain⟨t,rfl⟩:=rx;obtain⟨t',rfl⟩:=ry;obtain⟨j,h1,h2,h3,h4,h5⟩:=aDq he;have hl:z.cps.toList.length=z.length:=by simp[Str.length]
 rw[hl]at h1 h4 h5;have hn:=aA0;exact tail_any (typeIs_str s z t) slot_str_getitem.lookup (getItem_str (c:=c) (by
  have e1:decide (i< -(2 ^ 63:Int))=false:=Ab6 ∅;have e2:decide (i≥2 ^ 63)=false:=Ab6 ∅;rw[e1,e2,Zq]) (by rw[h1];simpa using h2) #[.str #[(List.toArray [c])],H,I.tok _,#[_,rfl],q]) hs
def rIx(K:Ad):R2:=λx y H Q=>aYa K x y H Q∨aYb K x y H Q∨bA3 x y H Q
def aY:IxR X (rIx X.K):=lB.or (aW5.or aW4)
def aI7(ab:List Value)(n j:Nat)(u:Value):Ea (·.setIfInBounds j u) {cls:=.type "list",data:=.seq ab.toArray n}={cls:=.type "list",data:=.seq (ab.set j u).toArray n}:=by
 simp[Ea]
def Inv.lst{aa:#v[6]}{σ:St}{H:Hp}{s:Shared}{p:Addr}{xs:List V}(I:#v[3])(h:H p=some (.lst xs)):
  ∃(ab:List Value)(n:Nat),Vals xs ab/\s.heap.get? p=some {cls:=.type "list",data:=.seq ab.toArray n}/\xs.length<=sizeLine:=by
 obtain⟨z,ab,n,r,e⟩:=I.hok p _ h;exact#[ab,n,r,e,z]
def Inv.lstUpd{σ:St}{H:Hp}{p:Addr}{xs ys:List V}{n n':Nat}{f:Obj->Obj}(I:#v[3])(h:H p=some (.lst xs))
  (ho:s.heap.get? p=some {cls:=.type "list",data:=.seq ab.toArray n}) (hf:f {cls:=.type "list",data:=.seq ab.toArray n}={cls:=.type "list",data:=.seq its'.toArray n'}) (r:Vals ys its') (hz:ys.length<=sizeLine) (t:Nat):
  Inv X aa σ (upd H p (.lst ys)) {s with heap:=s.heap.update p f,toks:=t}:=by
 have e:(s.heap.update p f).get? p=some {cls:=.type "list",data:=.seq its'.toArray n'}:=by
  rw[Bt f ho (by rw[hf]<;>rfl),hf]
 refine I.write (x:=p) (e:=p) (by rw[h];trivial) (.inl rfl) (λb u hb q=>(Cp _ _ (Dc hb)).trans q) #[_,e] ?_;exact#[hz,its',n',r,e]
inductive aNx(o:V)(i:V)(v:V)(H:Hp)(Q:(Hp->Prop)):Prop
 |mk (p xs k j:_) (q0_:o=.ref p) (q1_:i=.int k) (q2_:H p=some (.lst xs)) (q3_:ixN xs.length k=some j) (q4_:Q (upd H p (.lst (xs.set j v)))):aNx o i v H Q
def bA8:V->V->V->Hp->(Hp->Prop)->Prop:=λo i v H Q=>aNx o i v H Q
def set_list:aZr X bA8:=by
 intro aa s σ H o i v ov iv u Q I ro ri rv h;obtain⟨p,xs,k,j,rfl,rfl,hp,hj,q⟩:=h;cases ro;obtain⟨t,rfl⟩:=ri;obtain⟨ab,n,r,ho,hz⟩:=I.lst hp;obtain⟨h1,h2,h3,h4⟩:=aKy hj;have hl:=r.length;have hn:=aA0;have I':Inv X aa σ (upd H p (.lst (xs.set j v))) {s with heap:=s.heap.update p (Ea (·.setIfInBounds j u))}:=
  I.lstUpd hp ho (aI7 ab n j u) (r.set rv j) (by rw[Cg];exact hz) s.toks
 by_cases h0:0<=k
 ·have hk:k.toNat=j:=by
   rw[Xx h0 h4]at h1;exact Bs h1
  exact PySem.W.ki_setAt ho h0 ∅ (by rw[Al, <-hl];exact h4) (by rw[hk];exact#[_,I',q])
 ·have hk:(k+(ab.toArray.size:Int)).toNat=j:=by
   rw[Wt ∅ h3]at h1;rw[Al, <-hl];exact Bs h1
  exact PySem.W.ki_setBack ho ∅ (by rw[Al, <-hl];exact h3) ∅ (by rw[hk];exact#[_,I',q])
def aE0(lo hi:Option Int)(n:Nat):(Ls lo hi none n).1=((HT.sIx n 0 lo:Nat):Int)/\(Ls lo hi none n).2.1=((HT.sIx n n hi:Nat):Int)/\(Ls lo hi none n).2.2=1:=by
 refine#[?_,?_,rfl]
 ·cases lo with
  |none=>simp[Ls,HT.sIx]
  |some i=>
   simp only[Ls,HT.sIx,Vw,show(1:Int)>0 by decide,Ac2];by_cases h:i<0
   ·simp only[h,Ac2]<;>lia
   ·simp only[h,Ac1]<;>lia
 ·cases hi with
  |none=>simp[Ls,HT.sIx]
  |some i=>
   simp only[Ls,HT.sIx,Vw,show(1:Int)>0 by decide,Ac2];by_cases h:i<0
   ·simp only[h,Ac2]<;>lia
   ·simp only[h,Ac1]<;>lia
def aB8(ab:List Value)(lo hi:Option Int):slicePick ab.toArray lo hi none=((ab.drop (HT.sIx ab.length 0 lo)).take (HT.sIx ab.length ab.length hi-HT.sIx ab.length 0 lo)).toArray:=by
 obtain⟨h1,h2,h3⟩:=aE0 lo hi ab.toArray.size;unfold slicePick;rw[h1,h2,h3];simp only[sliceRange_one,pick_run,Al]<;>rfl
inductive aVg(K:Ad)(x:V)(lo:Option Int)(hi:Option Int)(H:Hp)(Q:VK):Prop
 |mk (a xs:_) (q0_:x=.ref a) (q1_:SqL K H a xs) (q2_:∀p,H p=none->Q (.ref p) (upd H p (.lst (aAr xs lo hi)))):aVg K x lo hi H Q
def bCx(K:Ad):V->Option Int->Option Int->Hp->VK->Prop:=λx lo hi H Q=>aVg K x lo hi H Q
def aK9:SlR X (bCx X.K):=by
 intro aa s σ H x v vl vu lo hi sl Q I rx hs pl pu h;obtain⟨a,xs,rfl,hx,q⟩:=h;cases rx;obtain⟨ab,r,ht,hz⟩:=I.list hx;have hlen:=r.length;refine#["list",_,slot_list_getitem.lookup,ht.isList.typeIs,?_];refine wpAny_getItem_list_slice ht.isList hs pl pu .none (by simp) ?_ (by rw[Al]<;>lia);rw[aB8, <-hlen];refine#[.ref #v[0],_,I.laid (t':=s.toks) (o:=.lst (aAr xs lo hi)) (λb ob q=>Ae _ q) (Ak _) ?_,rfl,q _ (I.hok.fresh (Ak _))];exact#[Dd (yN xs lo hi) hz,_,0,(r.drop (HT.sIx xs.length 0 lo)).take (HT.sIx xs.length xs.length hi-HT.sIx xs.length 0 lo),Au _ rfl]
def rO:V->Bool
 |.non=>true
 |.bl _=>true
 |.int _=>true
 |.str _=>true
 |_=>false
def eqV:V->V->Bool
 |.non,.non=>true
 |.bl a,.bl b=>a==b
 |.bl a,.int b=>(if a then 1 else 0)==b
 |.int a,.bl b=>a==(if b then 1 else 0)
 |.int a,.int b=>a==b
 |.str a,.str b=>a==b
 |_,_=>false
def aWz(ry:RelV y u)(rx:RelV x v)(fy:rO y=true)(fx:rO x=true):Mw A s u v (eqV y x):=by
 cases y with
 |non=>
  cases ry;cases x with
  |non=>cases rx;exact Ot _
  |bl b=>cases rx;exact SeqAt.EqAt.none_bool b
  |int b=>obtain⟨t,rfl⟩:=rx;exact SeqAt.EqAt.none_int b t
  |str b=>obtain⟨t,rfl⟩:=rx;exact SeqAt.EqAt.none_str b t
  |_=>exact(Ar fx).elim
 |bl a=>
  cases ry;cases x with
  |non=>cases rx;exact SeqAt.EqAt.bool_none a
  |bl b=>cases rx;exact SeqAt.EqAt.bool_bool a b
  |int b=>obtain⟨t,rfl⟩:=rx;exact SeqAt.EqAt.bool_int a b t
  |str b=>obtain⟨t,rfl⟩:=rx;exact SeqAt.EqAt.bool_str a b t
  |_=>exact(Ar fx).elim
 |int a=>
  obtain⟨t',rfl⟩:=ry;cases x with
  |non=>cases rx;exact SeqAt.EqAt.int_none a t'
  |bl b=>cases rx;exact SeqAt.EqAt.int_bool a t' b
  |int b=>obtain⟨t,rfl⟩:=rx;exact SeqAt.EqAt.int_int a t' b t
  |str b=>obtain⟨t,rfl⟩:=rx;exact Sd a t' b t
  |_=>exact(Ar fx).elim
 |str a=>
  obtain⟨t',rfl⟩:=ry;cases x with
  |non=>cases rx;exact SeqAt.EqAt.str_none a t'
  |bl b=>cases rx;exact SeqAt.EqAt.str_bool a t' b
  |int b=>obtain⟨t,rfl⟩:=rx;exact Sa a t' b t
  |str b=>obtain⟨t,rfl⟩:=rx;exact SeqAt.EqAt.str_str a t' b t
  |_=>exact(Ar fx).elim
 |_=>exact(Ar fy).elim
def aK:dR X (.builtin "len") (bA4 X.K):=by
 intro aa s σ H xs us Q I r h;obtain⟨p,ys,rfl,hq,q⟩:=h;obtain⟨u,rfl,rx⟩:=vals1 r;cases rx;have hn:=aA0;rcases hq with hq|hq
 ·obtain⟨ab,r',pl,hz⟩:=I.list hq;have hlen:=r'.length;exact Calls.call_len_list pl.isList (by simp only[Al]<;>lia) #[.int ys.length,H,I.tok _,#[s.toks+1,by rw[Al,hlen]],q]
 ·obtain⟨ab,r',pl,hz⟩:=I.tuple hq;have hlen:=r'.length;exact len_tuple pl (by simp only[Al]<;>lia) #[.int ys.length,H,I.tok _,#[s.toks+1,by rw[Al,hlen]],q]
def aDz:dR X (.type "list") (bA5 X.K):=by
 intro aa s σ H xs us Q I r h;obtain⟨p,ys,rfl,hq,q⟩:=h;obtain⟨u,rfl,rx⟩:=vals1 r;cases rx;have fin:∀(ab:List Value),Vals ys ab->ys.length<=sizeLine->∀(h':Heap)(c':Nat),(∀b o',s.heap.get? b=some o'->h'.get? b=some o')->
   h'.get? #v[0]=some {cls:=.type "list",dict:=none,data:=.seq ab.toArray c',slots:= (List.toArray [])}->EP X aa σ Q (.ref #v[0]) {s with heap:=h'}:=λab r' hz h' c' kp e=>
  #[.ref #v[0],_,I.laid (t':=s.toks) kp (Ak _) (show bO X.prog X.w _ h' _ (.lst ys)from#[hz,ab,c',r',e]),rfl,q _ (I.hok.fresh (Ak _))]
 rcases hq with hq|hq
 ·obtain⟨ab,r',pl,hz⟩:=I.list hq;have hlen:=r'.length;obtain⟨o,ho,hc,n,hd⟩:=pl.isList;exact call_list_seq p (.inl rfl) ho hc hd (λh' c' kp e=>fin ab r' hz h' c' kp e) (by simp only[Al]<;>lia)
 ·obtain⟨ab,r',pl,hz⟩:=I.tuple hq;have hlen:=r'.length;obtain⟨o,ho,hc,n,hd⟩:=pl;exact call_list_seq p (.inr rfl) ho hc hd (λh' c' kp e=>fin ab r' hz h' c' kp e) (by simp only[Al]<;>lia)
def aBv:dR X (.type "tuple") (λxs H Q=>∃p ys,xs=[.ref p]/\((SqL X.K H p ys/\∀l,H l=none->Q (.ref l) (upd H l (.tup ys)))∨(SqT X.K H p ys/\Q (.ref p) H))):=by
 intro aa s σ H xs us Q I r h;obtain⟨p,ys,rfl,h⟩:=h;obtain⟨u,rfl,rx⟩:=vals1 r;cases rx;rcases h with ⟨hq,q⟩|⟨hq,q⟩
 ·obtain⟨ab,r',pl,hz⟩:=I.list hq;have hlen:=r'.length;refine call_tuple_list pl.isList (λh' kp=>?_) (by simp only[Al]<;>lia);have I1:Inv X aa σ H {s with heap:=h'}:=I.kept (t':=s.toks) kp;have I2:Inv X aa σ (upd H h'.objs.size (.tup ys)) {s with heap:=h'.push {cls:=.type "tuple",data:=.seq ab.toArray}}:=
   I1.laid (t':=s.toks) (λb o e=>Ae _ e) (Ak _) (show bO X.prog X.w _ _ _ (.tup ys)from#[hz,ab,r',Xf _ _])
  exact#[.ref h'.objs.size,_,I2,rfl,q _ (I1.hok.fresh (Ak _))]
 ·obtain⟨ab,r',pl,hz⟩:=I.tuple hq;exact call_tuple_same pl #[.ref p,H,I,rfl,q]
def tyV(K:Ad)(T:String)(x:V)(H:Hp):Prop:=match x with
 |.str _=>T="str"
 |.int _=>T="int"
 |.ref p=>(T="list"/\∃xs,SqL K H p xs)∨(T="tuple"/\∃o,K.lookup p=some o/\o.cls=.type "tuple"/\o.dict=none)∨
   (T="dict"/\((∃kvs,H p=some (.dK kvs))∨∃kvs,H p=some (.dT kvs)))∨(T="set"/\∃S n,H p=some (.set S n))
 |_=>False
def aYo(I:#v[3])(r:RelV x v)(ty:tyV X.K T x H):
  s.TypeIs v T/\∀a,v=.ref a->∃ob,s.heap.get? a=some ob/\ob.dict=none:=by
 cases x with
 |str z=>
  obtain⟨t,rfl⟩:=r;cases (show T="str" from ty);exact#[typeIs_str s z t,λ_ e=>nomatch e]
 |int i=>
  obtain⟨t,rfl⟩:=r;cases (show T="int" from ty);exact#[Zw s i t,λ_ e=>nomatch e]
 |ref p=>
  cases r;rcases ty with ⟨rfl,xs,hq⟩|⟨rfl,o,hk,hc,hd⟩|⟨rfl,hk⟩|⟨rfl,S,n,hk⟩
  ·obtain⟨ab,_,pl,_⟩:=I.list hq;refine#[pl.isList.typeIs,λa e=>?_];cases e;obtain⟨o,n,e,c,hd,_⟩:=pl;exact#[o,e,hd]
  ·refine#[#[o,I.kIn p o hk,hc],λa e=>?_];cases e;exact#[o,I.kIn _ o hk,hd]
  ·have z:∃o,s.heap.get? p=some o/\o.ExactDict:=by
    rcases hk with ⟨kvs,hk⟩|⟨kvs,hk⟩
    ·obtain⟨_,_,_,_,o,_,_,e,ex,_⟩:=I.hok p _ hk;exact#[o,e,ex]
    ·obtain⟨_,_,_,_,o,_,_,e,ex,_⟩:=I.hok p _ hk;exact#[o,e,ex]
   obtain⟨o,e,ex⟩:=z;refine#[#[o,e,ex.1],λa e2=>?_];cases e2;exact#[o,e,ex.2.1]
  ·obtain⟨o,_,_,_,e,ex,_⟩:=I.hok p _ hk;refine#[#[o,e,ex.1],λa e2=>?_];cases e2;exact#[o,e,ex.2.1]
 |_=>exact Hg ty
def tBM(K:Ad)(T:String)(r:V->List V->Hp->VK->Prop)(to:TE)(t:TA):TE:=λσ H Q=>to σ H λx H1=>tyV K T x H1/\t σ H1 λxs H2=>r x xs H2 Q
variable {o e:Cr}{es:List Cr}{to:TE}{t:TA}{name:Str}{apos cpos:Pos}{T id:String}{r:V->List V->Hp->VK->Prop}
def aK2(pa:PlainAttrs T)(slot:Slot T name id)(hty:typeOf (.builtin id)=pure (.type "method_descriptor"))(hm:MtR X id r)(ho:PE X o to)(ha:PA X (e::es) t)
  (hbase:He o name X.env (eval o X.env)=eval o X.env:=by rfl)
  (hfew:((Np cpos (Ca (e::es) X.env)).all (λx=> !x.1) && (Gx cpos (Ed [] X.env)).all (λx=>x.1.isSome)
   && decide ((e::es).length+([]:List Lw).length+(if([]:List Lw).isEmpty then 0 else 1)<30))=true:=by rfl)
  (hline:EL apos cpos:=by rfl) (hs:SE X e es:=by rfl) (hplain:BT X cpos es:=by rfl):
  PE X (.Call (.Attribute o name apos) (e::es) [] cpos) (tBM X.K T r to t):=by
 intro aa s σ H Q I h;refine wpAny_Call_method_late hbase hfew hline rfl (thn (ho aa s σ H _ I h) λv s1 ⟨x,H1,I1,r1,ty,q1⟩=>?_);obtain⟨h1,h2⟩:=aYo I1 r1 ty;refine#[T,id,pa,slot,hty,h1,h2,?_];have hA:=ha cpos aa s1 σ H1 _ I1 q1;rw[hs]at hA⊢;refine Sx (by show(false || (Np cpos (Ca es X.env)).any (·.1))=false;rw[hplain]<;>rfl) (Calls.evalArgs_plain ?_);exact thn hA λus s2 ⟨vs,H2,I2,r2,q2⟩=>hm aa s2 σ H2 x vs v us Q I2 r1 r2 q2
end
def MtM(X:Cx)(id:String)(r:V->List V->Hp->VK->Prop):Prop:=
 ∀(aa:#v[6])(s:Shared)(σ:St)(H:Hp)(x:V)(xs:List V)(v:Value)(us:List Value)(Q:VK),#v[3]->RelV x v->Vals xs us->r x xs H Q->
  Bb #v[a] X.A (call (.builtin id) (v::us)) (EP X aa σ Q) X.xe s
def Vals.one:∀{x:V}{us:List Value},Vals [x] us->∃u,us=[u]/\RelV x u
 |_,_,.cons r .nil=>#[_,rfl,r]
def Vals.rep(h:Vals xs us):∀k:Nat,Vals (Bi k xs).flatten (Bi k us).flatten
 |0=> .nil
 |k+1=>by
  rw[Gp,Gp,Dt,Dt];exact Vals.append h (Vals.rep h k)
theorem foldl_rep(ab:List Value):∀(k:Nat)(af:List Value),
  Wj (λx1 x2=>x1++x2) af.toArray (Bi k ab.toArray)=(af++(Bi k ab).flatten).toArray
 |0,af=>by simp
 |k+1,af=>by
  have e:af.toArray++ab.toArray=(af++ab).toArray:=by simp
  have e2:(af++ab)++(Bi k ab).flatten=af++(Bi (k+1) ab).flatten:=by
   rw[Gp,Dt,Cz]
  rw[<-e2, <-foldl_rep ab k (af++ab), <-e,Gp,Lc]
variable {aa:#v[6]}{σ:St}{H:Hp}{s:Shared}{l b:Addr}{xs ys zs:List V}
def Inv.lset{f:Array Value->Array Value}{t':Nat}(I:#v[3])(hH:H l=some (.lst xs))
  (e:s.heap.get? l=some {cls:=.type "list",data:=.seq ab.toArray n}) (hf:f ab.toArray=its'.toArray) (hv:Vals ys its') (hz:ys.length<=sizeLine):
  Inv X aa σ (upd H l (.lst ys)) {s with heap:=s.heap.update l (Ea f),toks:=t'}:=by
 have q:=PySem.IsL.update e f;rw[hf]at q;refine I.write (x:=l) (e:=l) (by rw[hH];exact trivial) (.inl rfl) (λb' u hb hu=>(Cp s.heap (Ea f) (Dc hb)).trans hu) #[_,q] ?_;exact#[hz,its',_,hv,q]
def Inv.lnew{ab:List Value}(I:#v[3])(hv:Vals ys ab)(hz:ys.length<=sizeLine):
  Inv X aa σ (upd H #v[0] (.lst ys)) {s with heap:=s.heap.push {cls:=.type "list",data:=.seq ab.toArray},toks:=t'}:=
 I.laid (λ_ _ q=>Ae _ q) (Ak _) #[hz,ab,0,hv,Au _ rfl]
def Inv.fresh(I:#v[3]):H #v[0]=none:=I.hok.fresh (Ak _)
def Inv.lstM(I:#v[3])(hH:H l=some (.lst xs)):xs.length<=sizeLine/\∃(ab:List Value)(n:Nat),Vals xs ab/\xs.length=ab.length/\s.heap.get? l=some {cls:=.type "list",data:=.seq ab.toArray n}:=by
 obtain⟨z,ab,n,r,e⟩:=I.hok l _ hH;exact#[z,ab,n,r,r.length,e]
def aGu(h:n<=sizeLine):Ik n=false:=by
 unfold Ik;exact Ab6 ∅
inductive aFd(x:V)(vs:List V)(H:Hp)(Q:VK):Prop
 |mk (l xs y:_) (q0_:x=.ref l) (q1_:vs=[y]) (q2_:H l=some (.lst xs)) (q3_:xs.length<sizeLine) (q4_:Q .non (upd H l (.lst (xs++[y])))):aFd x vs H Q
def aT6:V->List V->Hp->VK->Prop:=λx vs H Q=>aFd x vs H Q
def xN:MtM X "list.append" aT6:=by
 intro aa s σ H x vs v us Q I rx rv h;obtain⟨l,xs,y,rfl,rfl,hH,hz,q⟩:=h;cases rx;obtain⟨u,rfl,ru⟩:=rv.one;obtain⟨z,ab,n,r,hl,e⟩:=I.lstM hH;refine Oq F.slot_list_append #[_,e,rfl] F.entry_list_append (F.args_list_append_2 _ _) (PySem.list_append l ab.toArray n u (by rw[Al];lia)) #[e,?_];refine#[.non,_,I.lset (its':=ab++[u]) hH e (by simp) (r.append (.cons ru .nil)) ?_,rfl,q];rw[Am,Dw]
 lia
inductive aFe(x:V)(vs:List V)(H:Hp)(Q:VK):Prop
 |mk (l b xs zs:_) (q0_:x=.ref l) (q1_:vs=[.ref b]) (q2_:H l=some (.lst xs)) (q3_:H b=some (.lst zs)) (q4_:xs.length+zs.length<=sizeLine) (q5_:Q .non (upd H l (.lst (xs++zs)))):aFe x vs H Q
def aT7:V->List V->Hp->VK->Prop:=λx vs H Q=>aFe x vs H Q
def aMh:MtM X "list.extend" aT7:=by
 intro aa s σ H x vs v us Q I rx rv h;obtain⟨l,b,xs,zs,rfl,rfl,hH,hB,hz,q⟩:=h;cases rx;obtain⟨u,rfl,ru⟩:=rv.one;cases ru;obtain⟨z,ab,n,r,hl,e⟩:=I.lstM hH;obtain⟨z2,its2,n2,r2,hl2,e2⟩:=I.lstM hB;have hsz:ab.toArray.size+its2.toArray.size<=sizeLine:=by rw[Al,Al];lia
 have hlong:¬(!ab.toArray.isEmpty && Ik (ab.toArray.size+its2.toArray.size))=true:=by
  rw[aGu hsz,Ji];exact Ar
 refine Oq F.slot_list_extend #[_,e,rfl] F.entry_list_extend (F.args_list_extend_2 _ _)
  (AutoSeq1.list_extend_list_list_0 l ab.toArray n b its2.toArray n2 hlong (by rw[Al];lia) ∅) #[e,e2,?_]
 refine#[.non,_,I.lset (its':=ab++its2) hH e (by simp) (r.append r2) ?_,rfl,q];rw[Am]
 lia
inductive aU6(x:V)(y:V)(H:Hp)(Q:VK):Prop
 |mk (l b xs zs:_) (q0_:x=.ref l) (q1_:y=.ref b) (q2_:H l=some (.lst xs)) (q3_:H b=some (.lst zs)) (q4_:xs.length+zs.length<=sizeLine) (q5_:∀p,H p=none->Q (.ref p) (upd H p (.lst (xs++zs)))):aU6 x y H Q
def bA0:R2:=λx y H Q=>aU6 x y H Q
def aXk:OpR X (Jk .Add) bA0:=by
 intro aa s σ H x y v u Q I rx ry h;obtain⟨l,b,xs,zs,rfl,rfl,hH,hB,hz,q⟩:=h;cases rx;cases ry;obtain⟨z,ab,n,r,hl,e⟩:=I.lstM hH;obtain⟨z2,its2,n2,r2,hl2,e2⟩:=I.lstM hB;refine PySem.P.add_list e e2 ?_ (by rw[Al,Al];lia);have ea:ab.toArray++its2.toArray=(ab++its2).toArray:=by simp
 rw[ea];exact#[.ref _,_,I.lnew (t':=s.toks) (r.append r2) (by rw[Am];lia),rfl,q _ I.fresh]
inductive aVe(x:V)(y:V)(H:Hp)(Q:VK):Prop
 |mk (l k xs:_) (q0_:x=.ref l) (q1_:y=.int k) (q2_:H l=some (.lst xs)) (q3_: -(2 ^ 63)<=k) (q4_:k<2 ^ 63) (q5_:xs.length*k.toNat<=sizeLine) (q6_:∀p,H p=none->Q (.ref p) (upd H p (.lst (Bi k.toNat xs).flatten))):aVe x y H Q
def bA6:R2:=λx y H Q=>aVe x y H Q
def len_rep(xs:List α)(k:Nat):(Bi k xs).flatten.length=k*xs.length:=by
 induction k with
 |zero=>simp
 |succ k ih=>rw[Gp,Dt,Am,ih,Nat.succ_mul,Uq]
def aQg:OpR X (Jk .Mult) bA6:=by
 intro aa s σ H x y v u Q I rx ry h;obtain⟨l,k,xs,rfl,rfl,hH,h1,h2,hz,q⟩:=h;cases rx;obtain⟨t,rfl⟩:=ry;obtain⟨z,ab,n,r,hl,e⟩:=I.lstM hH;have hlen:ab.toArray.size*k.toNat<=sizeLine:=by rw[Al, <-hl];exact hz
 have hcap:¬ab.toArray.size*k.toNat>(2 ^ 63-1) / 8:=by
  have:(sizeLine:Nat)<=(2 ^ 63-1) / 8:=by decide
  lia
 have hfit:¬(!Hu k)=true:=by
  rw[fitsIndex_both h1 h2];exact Ar
 have hlong:¬Ik (ab.toArray.size*k.toNat)=true:=by
  rw[aGu hlen];exact Ar
 have hnew:Wj (λx1 x2=>x1++x2) (List.toArray []) (Bi (if ab.toArray.isEmpty=true then 0 else k.toNat) ab.toArray)=(Bi k.toNat ab).flatten.toArray:=by
  have f0:∀m:Nat,Wj (λx1 x2=>x1++x2) (List.toArray []) (Bi m ab.toArray)=(Bi m ab).flatten.toArray:=λm=>by
   have:=foldl_rep ab m [];rw[Bm]at this;exact this
  rw[f0];cases ab with
  |nil=>simp
  |cons a r'=>rw[Ab0 (by simp)]
 refine wpAny_binaryOp_repeat_ref (T:="list") (U:="int") ⋯ #[_,e,rfl] (λs'=>Zw s' k t) noFill_list_mul F.fills_int_mul Aap repeat_list F.slot_int_index.lookup
  (Oq Aap (Zw s k t) F.entry_int_rmul (F.args_int_rmul_2 _ _) (int___rmul___int_list k t l ab.toArray n)
   #[e,rfl,#[_,e,rfl],Oq F.slot_list_mul #[_,e,rfl] F.entry_list_mul (F.args_list_mul_2 _ _) (AutoListH.list___mul___list_int_3 l ab.toArray n k t hfit hcap hlong) #[e,?_]])
 rw[hnew];exact#[.ref _,_,I.lnew (t':=s.toks) (r.rep k.toNat) (by rw[len_rep,Aa5];exact hz),rfl,q _ I.fresh]
variable {prog:An}{w:Bh}{A:Cm}{E:#v[5]}
end L2
namespace Att
open PySem PySem.W PySem.Calls PyProof.Rows
def zF:∀(ns:List Int)(vs:List Value),WellAll P h vs (ns.map Abq)->Nm vs ns:=by
 intro ns;induction ns with
 |nil=>
  intro vs w;rw[Gz]at w;cases w;exact .nil
 |cons n ns ih=>
  intro vs w;rw[Bj]at w;cases w with
  |cons a b=>
   cases a;exact .cons _ _ (ih _ b)
def aNb{l:OpenLaw}{n:Nat}(hn:l.most=some n){P:Params}{h:Heap}{args:List WData}{vals:List Value}
  (hpre:l.row.toRowW.claim.pre args=true) (hwl:WellAll P h vals args):
  ∃a vs ns,vals=[As a]/\args=[WData.list (ns.map Abq)]/\h.get? a=some {cls:=.type "list",data:=.seq vs.toArray}/\Nm vs ns/\ns.length<=n:=by
 have hsh:WShape.hasAll [] args [.list .int]=true:=(pre_splitW hpre).1;have hc:l.pre.holds [] {args:=args}=true:=(pre_splitW hpre).2;obtain⟨d,r,rfl,h1,h2⟩:=hasAllW_cons hsh;obtain rfl:=hasAllW_nil h2;obtain⟨xs,rfl,h3⟩:=hasW_list h1;obtain⟨ns,rfl⟩:=items_int h3;have hlen:ns.length<=n:=by
  unfold OpenLaw.pre at hc;have h4:(WTm.not (.lt (.lit (.int (n:Int))) (.len (.arg 0)))).holds [] {args:=[.list (ns.map .int)]}=true:=by
   have h4:=(holds_andW hc).1;rw[hn]at h4;exact h4
  have h5:=condW_of h4 (w_not (w_lt w_lit (w_len_list (w_arg rfl))));rw[Ab]at h5;refine Nat.le_of_not_lt λq=>?_;have q':(n:Int)<((ns.length:Nat):Int):=by lia
  first
   |(rw[Ab5 q']at h5;exact Ab2 h5 ⋯)
   |(simp at h5;lia)
 cases hwl with
 |cons w1 w2=>
  cases w2;cases w1 with
  |list ho hall=>exact#[_,_,ns,rfl,rfl,ho,zF ns _ hall,hlen]
def aM4(l:OpenLaw)(args:List WData):l.row.toRowW.claim.post args (.bool true) args=true:=
 postW_of (r:=l.row.toRowW) (X:=(true==true))
  (show Aae [] (.bool true) .bool=true by first|rfl|decide|simp[Aae,WShape.arms,WShape.armsAll])
  (show(WTm.eq .res (.lit (.bool true))).value [] {args:=args,res:=some (.bool true),after:=args}=some (.bool (true==true))from w_eq_bool (w_res rfl) w_lit) rfl
def aFp{l:OpenLaw}{n:Nat}{q:An}{loose:List Str}{XP:(Str->#v[10])->Heap->Prop}{YP:Bh->Heap->Prop}{d:DefRec}
  (hn:l.most=some n) (hdf:d.params.defaults=[])
  (call:∀(w:Bh)(s₀ s₁:Shared)(mg mb:Str->#v[10])(fa:Addr)(o:Obj)(pm cd doc:Value)(a:Addr)(vs:List Value)(ns:List Int),
   Ground q loose [] XP w s₀ mg mb s₁.heap->YP w s₁.heap->
   s₁.heap.get? fa=some o->o.data=.func (docDef d.name d.params d.body d.scope pm cd doc)->s₁.heap.CodeRec cd d.name->mg d.name=some (.ref fa)->
   s₁.heap.get? a=some {cls:=.type "list",data:=.seq vs.toArray}->Nm vs ns->ns.length<=n->s₁.gens= (List.toArray [])->
   Jn (model l.prog w) Tn (.call (.ref fa) #[[.ref a],[]]) (λr s'=>r=.ok (.ret (.bool true))/\OldK s₁.heap s'.heap/\s'.os=s₁.os/\Pn s'.gens) s₁):
  WalkO q loose XP YP l.row.toRowW d [] (λf vs=>Vv f vs):=by
 intro w s₀ s₁ mg mb G Y fa o pm cd doc dV kV ho hd hcd hD hmg hg args vals as hpre hlay hrd hwl hlo;obtain rfl:dV=.none:=Dflts.none hD hdf;obtain rfl:kV=.none:=Dflts.noKw hD;obtain⟨a,vs,ns,rfl,rfl,hobj,hints,hlen⟩:=aNb hn hpre hwl;refine enter_call (Mf (call w s₀ s₁ mg mb fa o pm cd doc a vs ns G Y ho (fd_plain hd) hcd hmg hobj hints hlen hg) λr s' hq=>?_);obtain⟨rfl,h2,h3,h4⟩:=hq;exact#[.inl #[.bool true,.bool true,[],rfl,λ_=>rfl,.bool true,aM4 l _,λ_=>#[Rf,λ_ hm=>(nomatch hm)]],h2,h3,h4]
variable {prog:An}{w:Bh}{A:Cm}{E:#v[5]}{s:Shared}{K:Frag}
end Att
namespace L2
variable {x qual:Str}{f:Addr}
open PySem PySem.Spec PyProof.Rows
theorem aDa:∀{vs:List Value}{ns:List Int},Nm vs ns->Vals (ns.map V.int) vs
 |_,_,.nil=> .nil
 |_,_,.cons n t h=> .cons #[t,rfl] (aDa h)
def Only(H:Hp):Prop:=∀b,H b=none∨∃o xs,H b=some (.frz o (.lst xs))
def aPi{P:An}{w:Bh}{K:Ad}{mg mb:Str->#v[10]}{CX:CXT}{k:Nat}{fa a:Addr}{fd:Br}{x:Str}{sp:Sp}{s₁:Shared}{vs:List Value}{ns:List Int}
  (KX:K.In s₁.heap) (hns:s₁.heap.Ns Ge mg) (hb:s₁.heap.Ns Aaa mb) (hbb:∀x:Str,x≠"__name__"->mb x=Fg x) (hlim:s₁.heap.NoLimit) (hg:s₁.gens= (List.toArray []))
  (ha:s₁.heap.get? a=some {cls:=.type "list",data:=.seq vs.toArray}) (hi:Nm vs ns) (hl:ns.length<=sizeLine) (hr:eZ k Tn)
  (F:∀base:Heap,K.In base->base.Ns Ge mg->bJ P w K mg base CX k fa fd [x] sp) (hbind:∀(s:Shared)(u:Value),We s fd #[[u],[]] [(x,u)])
  (hsp:∀H:Hp,Only H->SqL K H a (ns.map V.int)->sp [.ref a] H (λv _=>v=.bl true) λ_ _ _=>False)
  (hCX:∀H e s',CX [] H s₁ (λ_ _ _=>False) e s'->False):
  Jn (model P w) Tn (.call (.ref fa) #[[.ref a],[]]) (λr s'=>r=.ok (.ret (.bool true))/\OldK s₁.heap s'.heap/\s'.os=s₁.os/\Pn s'.gens) s₁:=by
 have rv:=aDa hi;have lenV:=hi.length;have core:∀H:Hp,Only H->SqL K H a (ns.map V.int)->HOk P w H s₁.heap->(∀b,H b≠none->b=a)->(H a≠none->K.lookup a=none)->
   Jn (model P w) Tn (.call (.ref fa) #[[.ref a],[]]) (λr s'=>r=.ok (.ret (.bool true))/\OldK s₁.heap s'.heap/\s'.os=s₁.os/\Pn s'.gens) s₁:=by
  intro H hO hS hok hA hK;have base_of:∀{b:Addr}{o:Obj},s₁.heap.get? b=some o->H b=none->(aD9 s₁.heap H).get? b=some o:=λe n=>aPb e n;have noA:∀{b:Addr}{o:Obj}{es:Array Ky}{ep:Nat},s₁.heap.get? b=some o->o.data=.dict es ep->H b=none:=λ{b o es ep} e d=>by
   cases q:H b with
   |none=>rfl
   |some u=>
    have e':b=a:=hA b (by rw[q];simp);subst e';rw[ha]at e;cases e;have d':Zo vs.toArray _=Data.dict es ep:=d;cases d'
  have nsK:∀{b:Addr}{m:Str->#v[10]},s₁.heap.Ns b m->(aD9 s₁.heap H).Ns b m:=λ{b m} ⟨o,es,ep,e,d,r⟩=>#[o,es,ep,base_of e (noA e d),d,r];have hKb:K.In (aD9 s₁.heap H):=λb o e=>base_of (KX b o e) (by
   cases q:H b with
   |none=>rfl
   |some u=>
    have e':b=a:=hA b (by rw[q];simp);subst e';rw[hK (by rw[q];simp)]at e;cases e)
  have hM:Mod K mg (aD9 s₁.heap H):=#[hKb,nsK hns,#[mb,nsK hb,hbb],let⟨mc,h1,h2⟩:=hlim;#[mc,nsK h1,h2]];have e0:aHw P w K mg (aD9 s₁.heap H) Tn [] s₁ H:=#[rfl,hM,λb o e=>aS4 e,Up (aL6 _ _),trivial,λb hb=>Ab2 (show b∈([]:List Addr)from hb) (by simp),hok,.of_eq hg];refine Mf ((F _ hKb (nsK hns)).run Tn [] s₁ H #[[.ref a],[]] [.ref a] [.ref a] _ _ hr e0 (hbind s₁ (.ref a)) (.cons rfl .nil) (hsp H hO hS)) λr s' h=>?_;cases r with
  |error e=>exact(hCX H e s' h).elim
  |ok fl=>
   cases fl with
   |next=>exact Hg h
   |brk=>exact Hg h
   |cont=>exact Hg h
   |ret u=>
    obtain⟨v,H',os,bare,un,hok',r',q⟩:=h;have q':v=.bl true:=q;subst q';obtain rfl:u=Lu true:=r';refine#[rfl,OldK.of_keep λb o e=>?_,os,bare];cases q:H b with
    |none=>exact un.keep b o e q (by intro z;exact Ab2 (show b∈([]:List Addr)from z) (by simp)) (by simp)
    |some u=>
     rcases hO b with z|⟨ob,xs,z⟩
     ·rw[q]at z;cases z
     ·have z2:=un.frzs b ob _ z;obtain⟨e1,_⟩:=hok b _ z;obtain⟨e2,_⟩:=hok' b _ z2;rw[e]at e1;cases e1;exact e2
 cases hk:K.lookup a with
 |some o=>
  have e:=KX a o hk;rw[ha]at e;cases e;refine core (λ_=>none) (λ_=> .inl rfl) (.inr #[_,vs.toArray,_,hk,rfl,rfl,rfl,by rw[Al,lenV];exact hl,by simpa using rv]) (λb u z=>by have z':(none:Option HO)=some u:=z;cases z') (λb z=>Ab2 rfl z) λz=>Ab2 rfl z
 |none=>
  refine core (λb=>if b=a then some (.frz {cls:=.type "list",data:=.seq vs.toArray} (.lst (ns.map V.int)))else none) (λb=>?_) (.inl (.inr #[{cls:=.type "list",data:=.seq vs.toArray},Ab1 rfl])) (λb u z=>?_) (λb z=>?_) λ_=>hk
  ·by_cases hb:b=a
   ·exact .inr #[_,_,Ab1 hb]
   ·exact .inl (Ab0 hb)
  ·by_cases hb:b=a
   ·have z':=(Ab1 hb).symm.trans z;cases z';subst hb;exact#[ha,by rw[Ab];exact hl,vs,_,rv,ha]
   ·have z':=(Ab0 hb).symm.trans z;cases z'
  ·by_cases hb:b=a
   ·exact hb
   ·exact Ab2 (Ab0 hb) z
def aUx{l:PySem.W.OpenLaw}{n k:Nat}{q:An}{loose:List Str}{XP:(Str->#v[10])->Heap->Prop}{YP:Bh->Heap->Prop}{d:DefRec}{K:Params->Ad}{CX:Bh->CXT}{sp:Bh->Sp}{x:Str}
  (hn:l.most=some n) (hn2:n<=sizeLine) (hdf:d.params.defaults=[]) (hr:eZ k Tn)
  (hY:∀(w:Bh)(h:Heap),YP w h->(K w.params).In h)
  (F:∀(w:Bh)(mg:Str->#v[10])(fa:Addr)(h:Heap),(K w.params).In h->h.Ns Ge mg->mg d.name=some (.ref fa)->
   ∃fd:Br,(∀(s:Shared)(u:Value),We s fd #[[u],[]] [(x,u)])/\
    ∀base:Heap,(K w.params).In base->base.Ns Ge mg->bJ l.prog w (K w.params) mg base (CX w) k fa fd [x] (sp w))
  (hsp:∀(w:Bh)(H:Hp)(a:Addr)(ns:List Int),ns.length<=n->Only H->SqL (K w.params) H a (ns.map V.int)->sp w [.ref a] H (λv _=>v=.bl true) λ_ _ _=>False)
  (hCX:∀(w:Bh)(H:Hp)(s:Shared)(e:Value)(s':Shared),CX w [] H s (λ_ _ _=>False) e s'->False):
  PySem.W.WalkO q loose XP YP l.row.toRowW d [] (λf vs=>Vv f vs):=by
 refine Att.aFp hn hdf λw s₀ s₁ mg mb fa o pm cd doc a vs ns G Y ho hd hcd hmg hobj hints hlen hg=>?_;have KX:=hY w _ Y;obtain⟨fd,hb,hF⟩:=F w mg fa _ KX G.T.g hmg;exact aPi KX G.T.g G.T.b G.T.builtins G.T.nolimit hg hobj hints (Dd hlen hn2) hr hF hb (λH hO hS=>hsp w H a ns hlen hO hS) λH e s'=>hCX w H s₁ e s'
def inClass(s:Stmt)(j:Nat):Stmt:=match s with
 |.ClassDef _ _ _ body _ _ _ _ _ _ _=>body.getD j (.Pass #[0,0,0,0])
 |_=> .Pass #[0,0,0,0]
def jC(s:Stmt):Arguments:=match s with
 |.FunctionDef _ a _ _ _ _ _ _ _ _=>a
 |_=>{posonlyargs:=[],args:=[],vararg:=none,kwonlyargs:=[],kw_defaults:=[],kwarg:=none,defaults:=[]}
def gF(s:Stmt):List Stmt:=match s with
 |.FunctionDef _ _ b _ _ _ _ _ _ _=>b
 |_=>[]
def aC(s:Stmt):Scope:=match s with
 |.FunctionDef _ _ _ _ _ _ sc _ _ _=>sc
 |_=>{kind:=.function,names:=[],isGenerator:=false,isCoroutine:=false}
abbrev CX0:CXT:=λ_ _ _ _ _ _=>False
abbrev E0:XK:=λ_ _ _=>False
def aC3:rW CX0 X E0:=λ_ _ _ _ _ _ _ h=>h.elim
structure Fun(K:Ad)(x qual:Str)(st:Stmt)(f:Addr)(fd:Br):Prop where
 ex:∃(oc:Value)(od:Option Addr)(kV doc pm:Value)(an:Option Addr)(ae ct:Value)(osl:Array (#v[10])),
  fd=Gi x qual (jC st) (gF st) (aC st) .none kV doc pm an ae ct/\K.lookup f=some #[oc,od,.func fd,osl]/\Qg K ae qual=true
 kp:Iu K (.ref f)=true
variable {P:An}{w:Bh}{K:Ad}{mg:Str->#v[10]}{base:Heap}
def Fun.ok{st:Stmt}{fd:Br}{N ps:List Str}{k:Nat}{sp:Sp}(F:Fun K x qual st f fd)(S:aQ N ps (aC st))(len:∀vs H Q E,sp vs H Q E->vs.length=ps.length)
  (hbody:∀(ae:Value)(A:Cm)(outer:List Env)(s:Shared)(H:Hp)(vs:List V)(Q:VK)(E:XK),eZ k (A.deeper (Ro qual (aC st) #v[0] f ae))->sp vs H Q E->
   ∃t,PSs (aIm CX0 P w K mg base N qual (aC st) f ae A outer s H E).nox (gF st) t/\t {nx:=λ_ H'=>Q .non H',rt:=Q} (start N vs) H):↥(k+1) f fd ps sp:=by
 obtain⟨oc,od,kV,doc,pm,an,ae,ct,osl,rfl,lk,hcd⟩:=F.ex;refine aZ2 lk hcd S len λA outer s H vs Q E hr hsp=>?_;obtain⟨t,h,q⟩:=hbody ae A outer s H vs Q E hr hsp;exact#[t,h.nox,q]
def Fun.binds{st:Stmt}{fd:Br}{ps:List Str}(F:Fun K x qual st f fd)
  (h:∀(kV doc pm:Value)(an:Option Addr)(ae ct:Value)(us:List Value),us.length=ps.length->Fh (Gi x qual (jC st) (gF st) (aC st) .none kV doc pm an ae ct) #[us,[]]=pure (ps.zip us)):Binds K fd ps []:=by
 obtain⟨oc,od,kV,doc,pm,an,ae,ct,osl,rfl,lk,hcd⟩:=F.ex;exact .all (h kV doc pm an ae ct)
def aO4{st:Stmt}{oc:Value}{od an:Option Addr}{osl:Array (#v[10])}{kV doc pm ae ct:Value}(l:K.lookup f=some #[oc,od,.func (Gi x qual (jC st) (gF st) (aC st) .none kV doc pm an ae ct),osl])
  (c:Qg K ae qual=true) (k:Iu K (.ref f)=true):Fun K x qual st f (Gi x qual (jC st) (gF st) (aC st) .none kV doc pm an ae ct):=#[#[oc,od,kV,doc,pm,an,ae,ct,osl,rfl,l,c],k]
variable {X:Cx}
def pv(i:Nat){x:Str}(hN:X.N[i]? =some x:=by rfl)(hv:Vis X.env.scope x:=by trivial)(hd:ND x:=by decide)
  (hcd:NC x:=by decide):PE X (.Name x pos) (bBm i):=pF hN hv hd hcd
def rQ{A B:Prop}(h:B):if false=true then A else B:=by
 rw[Ab0 Ar];exact h
def aGj{A B:Prop}(h:A):if true=true then A else B:=by
 rw[Ab1 rfl];exact h
def bCs{c A B:Prop} [Decidable c](h1:c->A)(h2:¬c->B):if c then A else B:=by
 by_cases h:c
 ·rw[Ab1 h];exact h1 h
 ·rw[Ab0 h];exact h2 h
def aZs(H H':Hp):Prop:=∀b o,H b=some o->H' b=some o
end L2
set_option maxHeartbeats 4000000
namespace L2
variable {kvs:List (List Key×V)}{xs:List (List Key×Addr×Value)}{Q:#v[5]}{u:Value}{y:V}
open PySem PySem.Spec PyProof.Rows
section
variable {κ:Type} [DecidableEq κ]
def lO(kvs:List (κ×V))(k:κ):Option V:=(kvs.find? λkv=>decide (kv.1=k)).map (·.2)
def putK(kvs:List (κ×V))(k:κ)(v:V):List (κ×V):=
 if(kvs.any λkv=>decide (kv.1=k))=true then kvs.map (λkv=>if kv.1=k then(kv.1,v)else kv)else kvs++[(k,v)]
def gC{p:κ×V}{r:List (κ×V)}{k:κ}(e:p.1=k):lO (p::r) k=some p.2:=by simp[lO,Ig,e]
def gB{p:κ×V}{r:List (κ×V)}{k:κ}(e:¬p.1=k):lO (p::r) k=lO r k:=by simp[lO,Ig,e]
theorem wM(k:κ):∀kvs:List (κ×V),(kvs.any λkv=>decide (kv.1=k))=(lO kvs k).isSome
 | []=>rfl
 |p::r=>by
  rw[Ju];by_cases e:p.1=k
  ·simp only[gC e,Ab5 e,Bool.true_or,Ul]
  ·rw[gB e,Ab6 e,Bool.false_or];exact wM k r
theorem aHl(k j:κ)(y:V):∀kvs:List (κ×V),lO (kvs.map λkv=>if kv.1=k then(kv.1,y)else kv) j=(lO kvs j).map λx=>if j=k then y else x
 | []=>rfl
 |p::r=>by
  have ih:=aHl k j y r;rw[Bj];by_cases h:p.1=k
  ·rw[Ab1 h];by_cases e:p.1=j
   ·rw[gC (p:=(p.1,y)) e,gC e,Jp,Ab1 (e.symm.trans h)]
   ·rw[gB (p:=(p.1,y)) e,gB e,ih]
  ·rw[Ab0 h];by_cases e:p.1=j
   ·rw[gC (p:=p) e,gC e,Jp,Ab0 (λz=>h (e.trans z))]
   ·rw[gB (p:=p) e,gB e,ih]
theorem aC9(k j:κ)(y:V):∀kvs:List (κ×V),lO kvs k=none->lO (kvs++[(k,y)]) j=if j=k then some y else lO kvs j
 | [],_=>by
  by_cases e:k=j
  ·rw[Ab1 e.symm];exact gC (p:=(k,y)) e
  ·rw[Ab0 (λz=>e z.symm)];exact gB (p:=(k,y)) e
 |p::r,hn=>by
  rw[List.cons_append];have hk:¬p.1=k:=λz=>by rw[gC z]at hn;cases hn
  rw[gB hk]at hn;have ih:=aC9 k j y r hn;by_cases e:p.1=j
  ·rw[gC e,gC e,Ab0 (λz=>hk (e.trans z))]
  ·rw[gB e,gB e,ih]
def aRw(kvs:List (κ×V))(k j:κ)(y:V):lO (putK kvs k y) j=if j=k then some y else lO kvs j:=by
 unfold putK;by_cases a:(kvs.any λkv=>decide (kv.1=k))=true
 ·rw[Ab1 a,aHl];rw[wM]at a;by_cases e:j=k
  ·obtain⟨x,hx⟩:=Ll.mp a;rw[Ab1 e,e,hx,Jp,Ab1 rfl]
  ·rw[Ab0 e];cases lO kvs j with
   |none=>rfl
   |some x=>rw[Jp,Ab0 e]
 ·rw[Ab0 a];refine aC9 k j y kvs ?_;rw[wM]at a;cases q:lO kvs k with
  |none=>rfl
  |some x=>rw[q]at a;exact(a rfl).elim
def sW(kvs:List (κ×V))(k:κ)(v:V):(putK kvs k v).length<=kvs.length+1:=by
 unfold putK;split
 ·rw[Ab];lia
 ·rw[Am,Ao,My];lia
def tZ.isSome_eq{u:#v[10]}(r:tZ o u):o.isSome=u.isSome:=by
 cases o with
 |none=>cases u with
  |none=>rfl
  |some _=>exact(show False from r).elim
 |some _=>cases u with
  |none=>exact(show False from r).elim
  |some _=>rfl
def KV.val{kvs:List (κ×V)}{vs:List (κ×Value)}(r:KV kvs vs)(k:κ):tZ (lO kvs k) (Td vs k):=by
 unfold KV at r;induction r with
 |nil=>exact Hh
 |@cons p q ps qs h t ih=>
  obtain⟨h1,h2⟩:=h;by_cases e:p.1=k
  ·have e':q.1=k:=h1.symm.trans e;have b:Td (q::qs) k=some q.2:=by simp[Td,Ig,e']
   rw[gC e,b];exact h2
  ·have e':¬q.1=k:=λz=>e (h1.trans z);have b:Td (q::qs) k=Td qs k:=by simp[Td,Ig,e']
   rw[gB e,b];exact ih
def KV.any{kvs:List (κ×V)}(r:KV kvs vs)(k:κ):(kvs.any λkv=>decide (kv.1=k))=vs.any λkv=>decide (kv.1=k):=by
 unfold KV at r;induction r with
 |nil=>rfl
 |cons h t ih=>rw[Ju,Ju,ih,h.1]
def KV.repl{kvs:List (κ×V)}(r:KV kvs vs)(k:κ)(ry:RelV y u):
  KV (kvs.map λkv=>if kv.1=k then(kv.1,y)else kv) (vs.map λkv=>if kv.1=k then(kv.1,u)else kv):=by
 unfold KV at r⊢;induction r with
 |nil=>exact .nil
 |@cons p q ps qs h t ih=>
  rw[Bj,Bj];refine .cons ?_ ih;obtain⟨h1,h2⟩:=h;by_cases e:p.1=k
  ·rw[Ab1 e,Ab1 (h1.symm.trans e)];exact#[h1,ry]
  ·rw[Ab0 e,Ab0 (λz=>e (h1.trans z))];exact#[h1,h2]
def KV.put{kvs:List (κ×V)}(r:KV kvs vs)(k:κ)(ry:RelV y u):KV (putK kvs k y) (stored vs k u):=by
 unfold putK stored;rw[r.any k];by_cases e:(vs.any λkv=>decide (kv.1=k))=true
 ·rw[Ab1 e,Ab1 e];exact r.repl k ry
 ·rw[Ab0 e,Ab0 e];exact Za r #[rfl,ry]
def KV.length{kvs:List (κ×V)}(r:KV kvs vs):kvs.length=vs.length:=Rq r
end
def aKz(r:RelV (kV k) u):(gH P w).is k u=true:=by
 cases k with
 |inl i=>obtain⟨t,e⟩:=(show∃t,u=Ey i t from r);subst e;exact aGp P w i t
 |inr x=>obtain⟨t,e⟩:=(show∃t,u=Qd x t from r);subst e;exact aGq P w x t
theorem aCu:∀{ks:List Key}{us:List Value},Vals (ks.map kV) us->ItemsAre (gH P w) ks us
 | [],_,r=>by rw[Gz]at r;cases r;exact .nil
 |k::ks,_,r=>by
  rw[Bj]at r;cases r with
  |cons h t=>exact .cons (aKz h) (aCu t)
abbrev KT(H:Hp):List (List Key×V)->List (List Key×Addr×Value)->Prop:=Zb λp q=>p.1=q.1/\H q.2.1=some (.tup (p.1.map kV))/\RelV p.2 q.2.2
def KT.val{H:Hp}(r:KT H kvs xs)(k:List Key):tZ (lO kvs k) ((Vu xs k).map (·.2)):=by
 induction r with
 |nil=>exact Hh
 |@cons p q ps qs h t ih=>
  obtain⟨h1,_,h2⟩:=h;by_cases e:p.1=k
  ·have e':q.1=k:=h1.symm.trans e;have b:Vu (q::qs) k=some q.2:=by simp[Vu,Ig,e']
   rw[gC e,b];exact h2
  ·have e':¬q.1=k:=λz=>e (h1.trans z);have b:Vu (q::qs) k=Vu qs k:=by simp[Vu,Ig,e']
   rw[gB e,b];exact ih
def KT.repl(r:KT H kvs xs)(k:List Key)(ry:RelV y u):
  KT H (kvs.map λkv=>if kv.1=k then(kv.1,y)else kv) (xs.map (putAt k u)):=by
 induction r with
 |nil=>exact .nil
 |@cons p q ps qs h t ih=>
  rw[Bj,Bj];refine .cons ?_ ih;obtain⟨h1,h2,h3⟩:=h;unfold putAt;by_cases e:p.1=k
  ·rw[Ab1 e,Ab1 (h1.symm.trans e)];exact#[h1,h2,ry]
  ·rw[Ab0 e,Ab0 (λz=>e (h1.trans z))];exact#[h1,h2,h3]
def KT.put(r:KT H kvs xs)(k:List Key)(hb:H b=some (.tup (k.map kV)))(ry:RelV y u):
  KT H (putK kvs k y) (Of xs k b u):=by
 have e:(kvs.any λkv=>decide (kv.1=k))=(Vu xs k).isSome:=by
  rw[wM,(r.val k).isSome_eq,Vd]
 unfold putK Of;rw[e];by_cases q:(Vu xs k).isSome=true
 ·rw[Ab1 q,Ab1 q];exact r.repl k ry
 ·rw[Ab0 q,Ab0 q];exact Za r #[rfl,hb,ry]
def KT.keeps(r:KT H kvs xs)(ht:∀b ys,H b=some (.tup ys)->H' b=some (.tup ys)):KT H' kvs xs:=
 Paired.mapP r λ_ _ z=>#[z.1,ht _ _ z.2.1,z.2.2]
variable {P:An}{w:Bh}{H:Hp}{h:Heap}{a:Addr}
def aWc{u:HO}(ok:HOk P w H h)(e:Rd H a u):bO P w H h a u:=e.ok ok
def aF1{kvs:List (Key×V)}(ok:HOk P w H h)(e:Rd H a (.dK kvs)):kvs.length<=sizeLine/\(a==Gs)=false/\∃vs,KV kvs vs/\h.DictOf (gH P w) a vs:=
 show bO P w H h a (.dK kvs)from aWc ok e
def aZz{kvs:List (Key×V)}(ok:HOk P w H h)(e:H a=some (.dK kvs)):kvs.length<=sizeLine/\(a==Gs)=false/\∃vs,KV kvs vs/\h.DictOf (gH P w) a vs:=aF1 ok (.inl e)
def aEc(ok:HOk P w H h)(e:H a=some (.tup (ks.map kV))):(Pz (gH P w)).is h ks a:=by
 obtain⟨_,ab,r,o,h1,h2,n,h3⟩:=(show bO P w H h a (.tup (ks.map kV))from ok a _ e);exact#[o,ab.toArray,n,h1,h2,h3,by simpa using aCu r]
def aKn(ok:HOk P w H h)(e:Rd H a (.dT kvs)):kvs.length<=sizeLine/\(a==Gs)=false/\
  ∃xs,KT H kvs xs/\h.DictOfH (Pz (gH P w)) a xs:=by
 obtain⟨z,y,xs,r,o,es,ep,h1,h2,h3,h4,h5⟩:=(show bO P w H h a (.dT kvs)from aWc ok e);refine#[z,y,xs,r,o,es,ep,h1,h2,h3,h4,λx hx=>?_,h5];have all:∀{l:List (List Key×V)}{m:List (List Key×Addr×Value)},KT H l m->∀x∈m,(Pz (gH P w)).is h x.1 x.2.1:=by
  intro l m q;induction q with
  |nil=>intro x hx;exact nomatch hx
  |@cons p q ps qs hq t ih=>
   intro x hx;rcases Ax.mp hx with e|hx
   ·subst e;exact aEc ok (by rw[<-hq.1];exact hq.2.1)
   ·exact ih x hx
 exact all r x hx
def aZ0(ok:HOk P w H h)(e:H a=some (.dT kvs)):kvs.length<=sizeLine/\(a==Gs)=false/\
  ∃xs,KT H kvs xs/\h.DictOfH (Pz (gH P w)) a xs:=aKn ok (.inl e)
def aBq(H:Hp)(a:Addr)(y:V)(r:Option V):Prop:=
 (∃kvs k,Rd H a (.dK kvs)/\y=kV k/\r=lO kvs k)∨∃kvs k b,Rd H a (.dT kvs)/\y=.ref b/\H b=some (.tup (k.map kV))/\r=lO kvs k
def aNo(H:Hp)(a:Addr)(y v:V)(H':Hp):Prop:=
 (∃kvs k,H a=some (.dK kvs)/\y=kV k/\kvs.length<sizeLine/\H'=upd H a (.dK (putK kvs k v)))∨
 ∃kvs k b,H a=some (.dT kvs)/\y=.ref b/\H b=some (.tup (k.map kV))/\kvs.length<sizeLine/\H'=upd H a (.dT (putK kvs k v))
theorem aBq.k{H:Hp}{a:Addr}{kvs:List (Key×V)}{k:Key}(e:H a=some (.dK kvs)):aBq H a (kV k) (lO kvs k):=.inl #[kvs,k,.inl e,rfl,rfl]
theorem aNo.k{H:Hp}{a:Addr}{kvs:List (Key×V)}{k:Key}{v:V}(e:H a=some (.dK kvs))(hl:kvs.length<sizeLine):aNo H a (kV k) v (upd H a (.dK (putK kvs k v))):=.inl #[kvs,k,e,rfl,hl,rfl]
variable {X:Cx}{aa:#v[6]}{σ:St}{s:Shared}{y v:V}{u r:Value}{o:Option V}{A:Cm}{E:#v[5]}
def Inv.big(I:#v[3]):Gs<#v[0]:=by
 have h:Ge<#v[0]:=(I.mod.glob.keeps I.bk).lt;exact Nk ⋯ h
def aLz(hu:A.units+1<cLine)(I:#v[3])(g:aBq H a y (some v))(ry:RelV y u)(h:∀w' s',Inv X aa σ H s'->RelV v w'->Q w' s'):
  Bb #v[a] A (Qy (.ref a) u) Q E s:=by
 rcases g with ⟨kvs,k,e,ey,l⟩|⟨kvs,k,b,e,ey,eb,l⟩
 ·subst ey;obtain⟨z,hd,vs,rel,dd⟩:=aF1 I.hok e;obtain⟨w',hw,rw'⟩:=tZ.some_of (v:=v) (o:=Td vs k) (by rw[l];exact rel.val k);exact wpAny_getItem_of (aKz ry) dd.mapOf hw (h w' _ (I.tok _) rw')
 ·subst ey;cases (show u=As b from ry);obtain⟨z,hd,xs,rel,dd⟩:=aKn I.hok e;obtain⟨w',hw,rw'⟩:=tZ.some_of (v:=v) (o:=(Vu xs k).map (·.2)) (by rw[l];exact rel.val k);obtain⟨p,hp,hp2⟩:=Jw.mp hw;refine wpAny_getItem_heap (Py hu) (aEc I.hok eb) dd hp ?_;rw[hp2];exact h w' _ (I.tok _) rw'
def aSq(hu:A.units+1<cLine)(I:#v[3])(g:aBq H a y o)(ry:RelV y u)(h:∀s',Inv X aa σ H s'->Q (.bool (!o.isSome)) s'):
  Bb #v[a] A (Ff .NotIn u (.ref a)) Q E s:=by
 rcases g with ⟨kvs,k,e,ey,l⟩|⟨kvs,k,b,e,ey,eb,l⟩
 ·subst ey;obtain⟨z,hd,vs,rel,dd⟩:=aF1 I.hok e;refine wpAny_notIn_of (aKz ry) hd dd.mapOf ?_;rw[<-(rel.val k).isSome_eq, <-l];exact h _ (I.tok _)
 ·subst ey;cases (show u=As b from ry);obtain⟨z,hd,xs,rel,dd⟩:=aKn I.hok e;refine wpAny_notIn_heap (Py hu) (aEc I.hok eb) hd dd ?_;have q:=(rel.val k).isSome_eq;rw[Vd]at q;rw[<-q, <-l];exact h _ (I.tok _)
def aKm(I:#v[3])(mu:Mut (H a))(hs:Eo a s.heap h')(he:∃q,h'.get? a=some q)(new:bO X.prog X.w (upd H a ob) h' a ob):
  Inv X aa σ (upd H a ob) {s with heap:=h',toks:=t'}:=
 I.write (x:=a) (e:=a) mu (.inl rfl) (λb q hb z=>(hs.2 b hb).trans z) he new
def aWw{P:An}{w:Bh}{kvs:List (Key×V)}(z:kvs.length<=sizeLine)(hd:(a==Gs)=false)(rel:KV kvs vs)(dd:h'.DictOf (gH P w) a vs):
  bO P w H' h' a (.dK kvs):=#[z,hd,vs,rel,dd]
def aL0{Q:Unit->Shared->Prop}(hu:A.units+1<cLine)(I:#v[3])(g:aNo H a y v H')(ry:RelV y u)(rv:RelV v r)(h:∀s',Inv X aa σ H' s'->Q () s'):
  Bb #v[a] A (Abm (.ref a) u r) Q E s:=by
 rcases g with ⟨kvs,k,e,ey,l,eH⟩|⟨kvs,k,b,e,ey,eb,l,eH⟩
 ·subst ey eH;obtain⟨z,hd,vs,rel,dd⟩:=aZz I.hok e;have hz:vs.length<=sizeLine:=by rw[<-rel.length];exact z
  have hl:(putK kvs k v).length<=sizeLine:=by have:=sW kvs k v;lia
  refine wpAny_setItem_pairs (hsz:=hz) (aKz ry) dd λh' dd' hs=>h _ ?_;have he:∃q,h'.get? a=some q:=let⟨q,_,_,hq,_⟩:=dd';#[q,hq];exact aKm I (by rw[e];exact Hh) hs he (aWw hl hd (rel.put k rv) dd')
 ·subst ey eH;cases (show u=As b from ry);obtain⟨z,hd,xs,rel,dd⟩:=aZ0 I.hok e;have hz:xs.length<=sizeLine:=by rw[<-Rq rel];exact z
  have hl:(putK kvs k v).length<=sizeLine:=by have:=sW kvs k v;lia
  refine wpAny_setItem_heap (hsz:=hz) (Py hu) (aEc I.hok eb) dd λh' dd' hs=>h _ ?_;obtain⟨q,es,ep,hq,h2,h3,h4,_,h5⟩:=dd';refine aKm I (by rw[e];exact Hh) hs #[q,hq] #[hl,hd,_,(rel.put k eb rv).keeps λc ys ec=>?_,q,es,ep,hq,h2,h3,h4,h5];rw[aN (bAn ec e (λz=>nomatch z))];exact ec
variable {kvs:List (Key×V)}{k:Key}
def aZx(I:#v[3])(e:Rd H a (.dK kvs))(h:∀t s',Inv X aa σ H s'->Q (.int kvs.length t) s'):Bb #v[a] A (call (.builtin "len") [.ref a]) Q E s:=by
 obtain⟨z,hd,vs,rel,dd⟩:=aF1 I.hok e;refine call_len_dict hd dd (by rw[<-rel.length];rw[Es]at z;lia) ?_;rw[<-rel.length];exact h _ _ (I.tok _)
def aWo(i:Cr):Prop:=∀ov iv,subscripted i false ov iv=operate [ov,iv] (Qy ov iv)
def aUf{prog:An}{w:Bh}{A:Cm}{E:#v[5]}{s:Shared}{env:Env}{value slice:Cr}{pos:Pos}{T id:String}
  (hl:On (.type T) "__getitem__"=pure (some (.builtin id))) (hs:aWo slice)
  (h:Bb #v[b] A (eval value env) (λo s₁=>Bb #v[b] A (eval slice env) (λi s₂=>s₂.TypeIs o T/\Bb #v[b] A (Qy o i) Q E s₂) E s₁) E s):
  Bb #v[b] A (eval (.Subscript value slice pos) env) Q E s:=by
 refine Aag (Gd h (λo s₁ h₁=>Gd h₁ (λi s₂ h₂=>?_) λ_ _ x=>x) λ_ _ x=>x);obtain⟨hT,h₂⟩:=h₂;unfold Vp;refine Aa ?_;rw[getitemInPython_of_ne hT.not_modules];refine Aa (Ex hT hl ?_);have fin:Bb #v[b] A (subscripted slice false o i) (λr s₃=>Bb #v[b] A (letTemporaryGo value o r>>=λ_=>pure r) Q E s₃) E s₂:=by
  rw[hs o i];exact wpAny_operating (Gd h₂ (λr s₃ h₃=>Aa (wpAny_letTemporaryGo (Ac h₃))) λ_ _ x=>x)
 first
  |exact Ac (Aa fin)
  |exact Aa (Ac (Aa fin))
  |exact Aa fin
def aF0{X:Cx}{aa:#v[6]}{σ:St}{H:Hp}{s:Shared}{a:Addr}{y:V}{o:Option V}(I:#v[3])(g:aBq H a y o):s.TypeIs (.ref a) "dict":=by
 rcases g with ⟨kvs,k,e,_,_⟩|⟨kvs,k,b,e,_,_,_⟩
 ·obtain⟨_,_,vs,_,dd⟩:=aF1 I.hok e;exact dd.typeIs
 ·obtain⟨_,_,xs,_,dd⟩:=aKn I.hok e;exact dd.typeIs
def bBf(td ty:TE):TE:=λσ H Q=>td σ H λx H1=>ty σ H1 λy H2=>∃a v,x=.ref a/\aBq H2 a y (some v)/\Q v H2
def bC2(ty td:TE):TE:=λσ H Q=>ty σ H λy H1=>td σ H1 λx H2=>∃a o,x=.ref a/\aBq H2 a y o/\Q (.bl o.isSome) H2
def aLb(ty td:TE):TE:=λσ H Q=>ty σ H λy H1=>td σ H1 λx H2=>∃a o,x=.ref a/\aBq H2 a y o/\Q (.bl (!o.isSome)) H2
def bBd(td ty tv:TE):TS:=λD σ H=>tv σ H λv H1=>td σ H1 λx H2=>ty σ H2 λy H3=>∃a H4,x=.ref a/\aNo H3 a y v H4/\D.nx σ H4
section
variable {X:Cx}{o i e value:Cr}{pos pos' tpos:Pos}{td ty tv:TE}
def aTu(hu:X.A.units+1<cLine)(ho:PE X o td)(hi:PE X i ty)(hs:aWo i):PE X (.Subscript o i pos) (bBf td ty):=by
 intro aa s σ H Q I h;refine aUf PySem.F.slot_dict_getitem.lookup hs (thn (ho aa s σ H _ I h) λu s1 ⟨x,H1,I1,rx,q1⟩=>thn (hi aa s1 σ H1 _ I1 q1) λiv s2 ⟨y,H2,I2,ry,a,v,ex,g,q2⟩=>?_);subst ex;obtain rfl:u=As a:=rx;exact#[aF0 I2 g,aLz hu I2 g ry λw' s3 I3 rw'=>#[v,H2,I3,rw',q2]]
def aM0(hu:X.A.units+1<cLine)(hi:PE X i ty)(ho:PE X o td):PC X .NotIn i o (aLb ty td):=by
 intro aa s σ H Q I h;refine thn (hi aa s σ H _ I h) λiv s1 ⟨y,H1,I1,ry,q1⟩=>thn (ho aa s1 σ H1 _ I1 q1) λu s2 ⟨x,H2,I2,rx,a,ov,ex,g,q2⟩=>?_;subst ex;obtain rfl:u=As a:=rx;exact aSq hu I2 g ry λs3 I3=>#[.bl (!ov.isSome),H2,I3,rfl,q2]
def aT4(hu:X.A.units+1<cLine)(ho:PE X o td)(hi:PE X i ty)(hv:PE X value tv)(hs:Fe value (some (.Subscript o i pos')) pos.line X.env=pure false):
  PS X (.Assign [.Subscript o i pos'] value pos) (bBd td ty tv):=by
 intro aa s σ H D I h;refine wpAny_Assign_Subscript (thn (hv aa s σ H _ I h) λr s1 ⟨v,H1,I1,rv,q1⟩=>thn (ho aa s1 σ H1 _ I1 q1) λu s2 ⟨x,H2,I2,rx,q2⟩=>thn (hi aa s2 σ H2 _ I2 q2) λiv s3 ⟨y,H3,I3,ry,a,H4,ex,g,q3⟩=>?_) hs;subst ex;obtain rfl:u=As a:=rx;exact aL0 hu I3 g ry rv λs4 I4=>#[σ,H4,I4,q3]
end
def aOe{P:An}{w:Bh}{H:Hp}(h:Heap)(hb:Gs<h.objs.size):bO P w H (h.push #v[7]) h.objs.size (.dK []):=
 #[Bp _,beq_eq_false_iff_ne.mpr (Dc (Bc hb)),[],.nil,Abt h]
def aYj:TE:=λ_ H Q=>∀p,H p=none->Q (.ref p) (upd H p (.dK []))
variable {pos:Pos}
def aQn:PE X (.Dict [] [] pos) aYj:=λaa s σ H Q I h=>
 wpAny_Dict_empty #[.ref #v[0],_,I.laid (a:=#v[0]) (o:=.dK []) (t':=s.toks) (λ_ _ q=>Ae _ q) (Ak _) (aOe s.heap I.big),rfl,h _ (I.hok.fresh (Ak _))]
variable {y d:V}
section
variable {X:Cx}{o e f:Cr}{apos cpos:Pos}{td ty tx:TE}
end
def aLo:dR X (.builtin "len") (λxs H Q=>∃a kvs,xs=[V.ref a]/\H a=some (.dK kvs)/\Q (.int kvs.length) H):=by
 intro aa s σ H xs us Q I r h;obtain⟨a,kvs,rfl,ha,q⟩:=h;obtain⟨u,rfl,ru⟩:=vals1 r;cases ru;exact aZx I (.inl ha) λt s' I'=>#[.int kvs.length,H,I',#[t,rfl],q]
section
variable {κ:Type} [DecidableEq κ]
end
end L2
namespace PySem
variable {Q:Bool->Shared->Prop}{xs:Array Nat}{a:Addr}{j:Nat}{h h':Heap}{α:Type}{items:Array Value}{i:Nat}{n:Nat}{e:Nat}{N:Nat}
open AutoSeq1 (wpAny_loadPart')
open Sem (wp)
variable {prog:An}{w:Bh}{A:Cm}{E:#v[5]}{s:Shared}
def vY{Q:#v[5]}(hit:s.heap.IsTupleIter it t i)(ht:s.heap.IsTuple t items)(hx:items[i]? =some x)
  (hQ:∀h',h'.IsTupleIter it t (i+1)->Eo it s.heap h'->Q x {s with heap:=h'}):Bb #v[b] A (Cy (.ref it)) Q E s:=by
 obtain⟨o,ho,hc,hd⟩:=id hit;obtain⟨ol,hol,_,nl,hdl⟩:=ht;unfold Cy;refine Aa (Cw (name:=Eh "__next__") hit.typeIs Jh
  (Bw Jh hit.typeIs Sm ?_ (Rx _)))
 show Bb _ _ (field (.ref it) 0>>=_) _ _ s;refine Aa (Du ho hd (x:=.ref t) rfl ?_);show Bb _ _ (if(As t==Cb)=true then _ else _) _ _ s;rw[Ab0 (show¬((As t==Cb)=true)from Ar)];show Bb _ _ (field (.ref it) 1>>=_) _ _ s;refine Aa (Du ho hd (x:=.int i 0) rfl ?_);show Bb _ _ (Qa (.ref t)>>=_) _ _ s;refine Aa (Di hol hdl ?_);simp only[Ck,hx];refine Aa (Hk ho hd (by simp) (Ac #[x,rfl,Ac (hQ _ ?_ (Cv ..))]));exact⟨_,Bt _ ho (Ij (Ep hd _)),(Kc ..).trans hc,by
  rw[Ep hd];simp[Ka]⟩
def xO{Q:#v[5]}(hh:A.handled=none)(hit:s.heap.IsTupleIter it t i)(ht:s.heap.IsTuple t items)(hx:items[i]? =none)
  (hE:∀h' e,Qs it s.heap h'->(∃o,h'.get? e=some o/\o.cls=.type "StopIteration")->E (.ref e) {s with heap:=h'}):Bb #v[b] A (Cy (.ref it)) Q E s:=by
 obtain⟨o,ho,hc,hd⟩:=id hit
 obtain⟨ol,hol,_,nl,hdl⟩:=ht
 unfold Cy
 refine Aa (Cw (name:=Eh "__next__") hit.typeIs Jh
  (Bw Jh hit.typeIs Sm ?_ (Rx _)))
 show Bb _ _ (field (.ref it) 0>>=_) _ _ s
 refine Aa (Du ho hd (x:=.ref t) rfl ?_)
 show Bb _ _ (if(As t==Cb)=true then _ else _) _ _ s
 rw[Ab0 (show¬((As t==Cb)=true)from Ar)]
 show Bb _ _ (field (.ref it) 1>>=_) _ _ s
 refine Aa (Du ho hd (x:=.int i 0) rfl ?_)
 show Bb _ _ (Qa (.ref t)>>=_) _ _ s
 refine Aa (Di hol hdl ?_)
 simp only[Ck,hx]
 refine Aa (Jj (Aa (Hk ho hd (by simp) ?_)))
 show Bb _ _ (Uz (.type "StopIteration") []>>=_) _ _ _
 refine Aa ?_
 simp only[Uz,Yn]
 refine Aa (Cd ?_ (by size_fits))
 refine Aa (m:=Ia _ _) (Nd (a:=Cb) (by first|rfl|(simp only[Ia];rfl)) ?_)
 refine Cd ?_ (by size_fits)
 simp only[Ym]
 refine Aa (Px ?_)
 first|rw[show A.in1.handled=none from hh]|rw[hh]
 refine Aa (Ac (Sz ?_))
 exact hE _ _ (((Cv ..).extBut.push _).push _) #[_,Au _ rfl,rfl]
structure aN1(h:Heap)(z TI TO i1 i2 t l:Addr)(k:Nat)(f0:Value):Prop where
 z:Yg h z TI TO f0
 ti:IsPair h TI (.ref i1) (.ref i2)
 to:∃a b,IsPair h TO a b
 h1:h.IsTupleIter i1 t k
 h2:h.IsListIter i2 l k
def aNl{xs ys:Array Value}{Q:#v[10]->Shared->Prop}(D:Qc z TI TO i1 i2 t l)(S:aN1 s.heap z TI TO i1 i2 t l k .none)
  (hl1:s.heap.IsTuple t xs) (hl2:s.heap.IsList l ys) (hx:xs[k]? =some x) (hy:ys[k]? =some y)
  (hQ:∀h',aN1 h' z TI TO i1 i2 t l (k+1) (Ka #v[0])->IsPair h' #v[0] x y->h'.objs.size=#v[0]+1->
   (∀c o,c≠z->c≠TO->c≠i1->c≠i2->s.heap.get? c=some o->h'.get? c=some o)->Q (some (.ref #v[0])) {s with heap:=h'}):
  Bb #v[b] A (Gv (.ref z)) Q E s:=by
 obtain⟨hz,hTI,⟨a,b,hTO⟩,h1,h2⟩:=S;have hT:s.TypeIs (.ref z) "zip":=#[_,hz,rfl];unfold Gv;refine Aa (Hw (Cw (name:=Eh "__next__") hT Hl (Bw Hl hT Na ?_ (Mp _))));show Bb _ _ (field (.ref z) 2>>=_) _ _ _;refine Aa (Du hz rfl (x:=.bool false) rfl ?_);show Bb _ _ (field (.ref z) 3>>=_) _ _ _;refine Aa (Du hz rfl (x:=.ref TI) rfl ?_);refine Aa (Di hTI rfl ?_);show Bb _ _ (Cj (.ref z)>>=_) _ _ _;refine Aa ?_;unfold Cj;refine Aa (Du hz rfl (x:=.none) rfl (Ac ?_));simp only[Ac2];refine Aa (Jj ?_);refine Aa (Du hz rfl (x:=.ref TO) rfl ?_);refine Aa (Im hz (by simp) λh₁ hz₁ hs₁=>?_)
 replace hz₁:Yg h₁ z TI TO .ellipsis:=hz₁
 refine Aa ?_;simp only[Xa,Xp,Ie,Ke];refine Aa (Aa (Vl ?_));show Bb _ _ (Cy (.ref i1)>>=_) _ _ _;refine Aa (vY (h1.extBut hs₁.extBut D.i1z) (hl1.extBut hs₁.extBut D.l1z) hx λh₂ h1₂ hs₂=>Ac ?_);have hTO₂:IsPair h₂ TO a b:=hs₂.extBut _ _ D.TOi1 (hs₁.extBut _ _ D.TOz hTO);refine Aa (Di hTO₂ rfl ?_);refine Aa (Xk hTO₂ λh₃ hTO₃ hs₃=>?_)
 replace hTO₃:IsPair h₃ TO x b:=hTO₃
 refine Aa (Lq (Ac ?_));refine Aa (Aa (Vl ?_));show Bb _ _ (Cy (.ref i2)>>=_) _ _ _;refine Aa (Nu (((h2.extBut hs₁.extBut D.i2z).extBut hs₂.extBut D.i12.symm).extBut hs₃.extBut D.TOi2.symm)
  (((hl2.extBut hs₁.extBut D.l2z).extBut hs₂.extBut D.l2i1).extBut hs₃.extBut D.l2TO) hy λh₄ h2₄ hs₄=>Ac ?_)
 have hTO₄:IsPair h₄ TO x b:=hs₄.extBut _ _ D.TOi2 hTO₃;refine Aa (Di hTO₄ rfl ?_);refine Aa (Xk hTO₄ λh₅ hTO₅ hs₅=>?_)
 replace hTO₅:IsPair h₅ TO x y:=hTO₅
 refine Aa (Lq (Ac (Ac ?_)));refine Aa (Di hTO₅ rfl ?_);refine Aa (Ud ?_);have hsz:h₅.objs.size=#v[0]:=by rw[hs₅.1,hs₄.1,hs₃.1,hs₂.1,hs₁.1]
 have hz₅:Yg h₅ z TI TO .ellipsis:=hs₅.extBut _ _ D.TOz.symm (hs₄.extBut _ _ D.i2z.symm (hs₃.extBut _ _ D.TOz.symm (hs₂.extBut _ _ D.i1z.symm hz₁)));have hk₅:∀c o,c≠z->c≠TO->c≠i1->c≠i2->s.heap.get? c=some o->h₅.get? c=some o:=λc o c1 c2 c3 c4 e=>
  hs₅.extBut _ _ c2 (hs₄.extBut _ _ c4 (hs₃.extBut _ _ c2 (hs₂.extBut _ _ c3 (hs₁.extBut _ _ c1 e))))
 have h1₅:h₅.IsTupleIter i1 t (k+1):=((h1₂.extBut hs₃.extBut D.TOi1.symm).extBut hs₄.extBut D.i12).extBut hs₅.extBut D.TOi1.symm;have h2₅:h₅.IsListIter i2 l (k+1):=h2₄.extBut hs₅.extBut D.TOi2.symm;have hzlt:z<h₅.objs.size:=Aw hz₅;show Bb _ _ (Lg (.ref z) (.ref h₅.objs.size)>>=_) _ _ _;refine Aa ?_;unfold Lg;have hz₆:Yg (h₅.push {cls:=.type "tuple",data:=.seq (List.toArray [x,y])}) z TI TO .ellipsis:=Ae _ hz₅;refine Aa (Im hz₆ (by simp) λh₇ hz₇ hs₇=>?_)
 replace hz₇:Yg h₇ z TI TO (Ka h₅.objs.size):=hz₇
 refine Im hz₇ (by simp) λh₈ hz₈ hs₈=>?_
 replace hz₈:Yg h₈ z TI TO (Ka h₅.objs.size):=hz₈
 have up:∀c o,c≠z->h₅.get? c=some o->h₈.get? c=some o:=λc o c1 e=>hs₈.extBut _ _ c1 (hs₇.extBut _ _ c1 (Ae _ e));have hT₈:IsPair h₈ h₅.objs.size x y:=hs₈.extBut _ _ (Gm hzlt) (hs₇.extBut _ _ (Gm hzlt) (Au _ rfl));have hz8:h₈.objs.size=h₅.objs.size+1:=by rw[hs₈.1,hs₇.1,Df]
 rw[hsz]at hz₈ hT₈ hz8;refine Ac #[_,rfl,Ac ?_];show Q (some (.ref h₅.objs.size)) _;rw[hsz];exact hQ h₈ #[hz₈,up _ _ D.TIz (hk₅ _ _ D.TIz D.TITO D.TIi1 D.TIi2 hTI),#[_,_,up _ _ D.TOz hTO₅],h1₅.at λo e=>up _ o D.i1z e,h2₅.at λo e=>up _ o D.i2z e] hT₈ hz8 λc o c1 c2 c3 c4 e=>up c o c1 (hk₅ c o c1 c2 c3 c4 e)
def aSe{xs:Array Value}{Q:#v[10]->Shared->Prop}(hh:A.handled=none)(D:Qc z TI TO i1 i2 t l)(S:aN1 s.heap z TI TO i1 i2 t l k .none)
  (hl1:s.heap.IsTuple t xs) (hx:xs[k]? =none)
  (hQ:∀h',(∀c o,c≠z->c≠TO->c≠i1->c≠i2->s.heap.get? c=some o->h'.get? c=some o)->Q none {s with heap:=h'}):Bb #v[b] A (Gv (.ref z)) Q E s:=by
 obtain⟨hz,hTI,⟨a,b,hTO⟩,h1,h2⟩:=S;have hT:s.TypeIs (.ref z) "zip":=#[_,hz,rfl];unfold Gv;refine Aa (Hw (Cw (name:=Eh "__next__") hT Hl (Bw Hl hT Na ?_ (Mp _))));show Bb _ _ (field (.ref z) 2>>=_) _ _ _;refine Aa (Du hz rfl (x:=.bool false) rfl ?_);show Bb _ _ (field (.ref z) 3>>=_) _ _ _;refine Aa (Du hz rfl (x:=.ref TI) rfl ?_);refine Aa (Di hTI rfl ?_);show Bb _ _ (Cj (.ref z)>>=_) _ _ _;refine Aa ?_;unfold Cj;refine Aa (Du hz rfl (x:=.none) rfl (Ac ?_));simp only[Ac2];refine Aa (Jj ?_);refine Aa (Du hz rfl (x:=.ref TO) rfl ?_);refine Aa (Im hz (by simp) λh₁ hz₁ hs₁=>?_)
 replace hz₁:Yg h₁ z TI TO .ellipsis:=hz₁
 refine Aa ?_;simp only[Xa,Xp,Ie,Ke];refine Aa (Aa (Vl ?_));show Bb _ _ (Cy (.ref i1)>>=_) _ _ _;refine Aa (xO hh (h1.extBut hs₁.extBut D.i1z) (hl1.extBut hs₁.extBut D.l1z) hx λh₂ e hs₂ he=>?_);obtain⟨oe,hoe,hce⟩:=he;have hz₂:Yg h₂ z TI TO .ellipsis:=hs₂ _ _ D.i1z.symm hz₁;have hez:e≠z:=λx=>by subst x;rw[hz₂]at hoe;cases hoe;simp at hce
 refine Im hz₂ (by simp) λh₃ _ hs₃=>?_;refine Aa (Ez (T:="StopIteration") (b:=true) #[oe,hs₃.extBut _ _ hez hoe,hce] Mj ?_);exact Ac (hQ _ λc o c1 _ c3 _ x=>hs₃.extBut _ _ c1 (hs₂ _ _ c3 (hs₁.extBut _ _ c1 x)))
abbrev zT1(h:Heap)(t:Addr):Heap:=h.push {cls:=.type "tuple_iterator",data:=.fields (List.toArray [.ref t,.int 0 0])}
abbrev zT2(h:Heap)(t l:Addr):Heap:=(zT1 h t).push {cls:=.type "list_iterator",data:=.fields (List.toArray [.ref l,.int 0 0])}
abbrev zT3(h:Heap)(t l:Addr):Heap:=(zT2 h t l).push {cls:=.type "tuple",data:=.seq (List.toArray [.ref h.objs.size,.ref (zT1 h t).objs.size])}
abbrev zT4(h:Heap)(t l:Addr):Heap:=(zT3 h t l).push {cls:=.type "tuple",data:=.seq (List.toArray [.none,.none])}
abbrev zT5(h:Heap)(t l:Addr):Heap:=(zT4 h t l).push {cls:=.type "zip",data:=.fields (List.toArray [.none,.bool false,.bool false,.ref (zT2 h t l).objs.size,.ref (zT3 h t l).objs.size])}
def aA2(t l:Addr)(xs ys:Array Value):
  Meets (Builtin.«zip.__new__» #[[.type "zip",.ref t,.ref l],[]]) (λ_ R s=>s.heap.IsTuple t xs/\s.heap.IsList l ys/\
   R (.ok (.ret (.ref (zT4 s.heap t l).objs.size))) {s with heap:=zT5 s.heap t l}):=
 .of_wp λprog w A R s h=>by
  obtain⟨hp,g,d,tk,os⟩:=s;obtain⟨hl1,hl2,h⟩:=h;have hsub:=sub_zip;have hL1:Heap.IsTuple (Yx #[hp,g,d,tk,os]) t xs:=hl1;have hL2:Heap.IsList (Yx #[hp.push {cls:=.type "tuple_iterator",data:=.fields (List.toArray [.ref t,.int 0 0])},g,d,tk,os]) l ys:=Abs hl2 _
  wp_walk using Yk hL1,Kn hL2
  exact#[_,rfl,h]
def aLu{prog:An}{w:Bh}{A:Cm}{E:#v[5]}{s:Shared}{xs ys:Array Value}{Q:#v[5]}(hl1:s.heap.IsTuple t xs)(hl2:s.heap.IsList l ys)
  (h:∀h',aN1 h' (#v[0]+4) (#v[0]+2) (#v[0]+3) #v[0] (#v[0]+1) t l 0 .none->(∀c o,s.heap.get? c=some o->h'.get? c=some o)->Q (.ref (#v[0]+4)) {s with heap:=h'}):
  Bb #v[b] A (call (.type "zip") [.ref t,.ref l]) Q E s:=by
 refine callType_new F.called_zip ⋯ (F.typeCall_zip_2 _ _) (F.newCall_zip_2 _ _) (λobj=>F.args_object_init_3 obj _ _) F.entry_zip_new (aA2 t l xs ys) #[hl1,hl2,?_];have z1:(zT1 s.heap t).objs.size=#v[0]+1:=Df ..;have z2:(zT2 s.heap t l).objs.size=#v[0]+2:=by rw[Df,z1]
 have z3:(zT3 s.heap t l).objs.size=#v[0]+3:=by rw[Df,z2]
 have z4:(zT4 s.heap t l).objs.size=#v[0]+4:=by rw[Df,z3]
 have g5:(zT5 s.heap t l).get? (zT4 s.heap t l).objs.size=some _:=Au _ rfl;have g4:(zT5 s.heap t l).get? (zT3 s.heap t l).objs.size=some _:=Ae _ (Au _ rfl);have g3:(zT5 s.heap t l).get? (zT2 s.heap t l).objs.size=some _:=Ae _ (Ae _ (Au _ rfl));have g2:(zT5 s.heap t l).get? (zT1 s.heap t).objs.size=some _:=Ae _ (Ae _ (Ae _ (Au _ rfl)));have g1:(zT5 s.heap t l).get? #v[0]=some _:=Ae _ (Ae _ (Ae _ (Ae _ (Au _ rfl))));show _/\_;rw[z2,z3,z4]at g5;rw[z1,z2]at g3;rw[z3]at g4;rw[z1]at g2;rw[z4];exact⟨#[_,g5,rfl],h _ #[g5,g3,#[_,_,g4],#[_,g1,rfl,rfl],#[_,g2,rfl,rfl]] λc o x=>
  Ae _ (Ae _ (Ae _ (Ae _ (Ae _ x))))⟩
section
variable {prog:An}{w:Bh}{K:Type} [DecidableEq K](knd:KeyKind prog w K)
def bN(h:Heap)(x:K×List K)(a:Addr):Prop:=∃o v b n,h.get? a=some o/\o.cls=.type "tuple"/\o.data=.seq (List.toArray [v,.ref b]) n/\knd.is x.1 v=true/\Kq knd h x.2 b
def sZ(x:K×List K):Int:=Ux (Dv [knd.hash x.1,Kt knd x.2])
variable {knd}
def bN.typeIs{s:Shared}{x:K×List K}(h:bN knd s.heap x a):s.TypeIs (.ref a) "tuple":=let⟨o,_,_,_,ho,hc,_⟩:=h;#[o,ho,hc]
def bN.inj{h:Heap}(hx:bN knd h x a)(hy:bN knd h y a):x=y:=by
 obtain⟨o,v,b,n,ho,_,hd,h1,h2⟩:=hx;obtain⟨o',v',b',n',ho',_,hd',h1',h2'⟩:=hy;obtain rfl:o=o':=Bs (ho.symm.trans ho');rw[hd]at hd';injection hd' with e _
 have e1:v=v'/\b=b':=by simpa using e
 obtain⟨rfl,rfl⟩:=e1;exact Qi (knd.inj _ _ _ h1 h1') (h2.inj h2')
def bN.keeps{a d:Addr}{es ep}(hx:bN knd h x a)(ho:h.get? d=some o)(hd:o.data=.dict es ep)(hs:Eo d h h'):bN knd h' x a:=by
 obtain⟨o',v,b,n,ho',hc,hd',h1,h2⟩:=hx;have hne:a≠d:=by
  rintro rfl;obtain rfl:o'=o:=Bs (ho'.symm.trans ho);rw[hd]at hd';exact nomatch hd'
 exact#[o',v,b,n,(hs.2 a hne).trans ho',hc,hd',h1,h2.keeps ho hd hs]
variable {A:Cm}{E:#v[5]}{s:Shared}
def wU{x:K×List K}{Q:Int->Shared->Prop}(hu:A.units+1<cLine)(hk:bN knd s.heap x a)(h:Q (sZ knd x) {s with toks:=s.toks+(x.2.length+3)}):
  Bb #v[b] A (pyHash (.ref a)) Q E s:=by
 have hT:=hk.typeIs
 obtain⟨o,v,b,n,ho,_,hd,h1,h2⟩:=hk
 unfold pyHash
 first|unfold pyHashByItsType|skip
 first|refine Aa (wpAny_cRoomFor_or (.inr ∅) ?_)|skip
 refine Aa (Ex hT F.slot_tuple_hash.lookup ?_)
 show Bb _ _ (if(some (Yb "tuple.__hash__")==some Cb)=true then _ else _) Q E s
 rw[Ab0 (by rw[beq_builtin_none];exact Ar)]
 refine Aa (Ex hT F.slot_tuple_hash.lookup ?_)
 show Bb _ _ (callSpecialIfBoundUnlessNone? (.ref a) "__hash__" _>>=_) Q E s
 refine Aa (wpAny_callSpecialIfBoundUnlessNone?_slot hT Yh (Bw Yh hT F.entry_tuple_hash ?_ (F.args_tuple_hash_1 _)))
 show Bb _ _ (Oa (.ref a)>>=_) _ _ s
 refine Aa (Kb ho hd ?_)
 refine Aa ?_
 rw[<-Gf]
 refine Fz _
  (λrest(r:Array Int) s'=>(rest=[v,.ref b]/\r= (List.toArray [])/\s'=s)∨(rest=[.ref b]/\r= (List.toArray [knd.hash x.1])/\s'={s with toks:=s.toks+1})∨(rest=[]/\r= (List.toArray [knd.hash x.1,Kt knd x.2])/\s'={s with toks:=s.toks+1+(x.2.length+1)}))
  _ ?_ ?_ _ _ (.inl #[rfl,rfl,rfl])
 ·rintro y rest r s' (⟨e,rfl,rfl⟩|⟨e,rfl,rfl⟩|⟨e,_,_⟩)
  ·obtain⟨rfl,rfl⟩:=Dy e
   refine Aa (knd.pyHash h1 ?_)
   exact Ac (.inr (.inl #[rfl,rfl,rfl]))
  ·obtain⟨rfl,rfl⟩:=Dy e
   refine Aa (wpAny_pyHash_tuple (show A.in1.units<cLine from hu) h2 ?_)
   exact Ac (.inr (.inr #[rfl,rfl,rfl]))
  ·cases e
 ·rintro r s' (⟨e,_,_⟩|⟨e,_,_⟩|⟨_,rfl,rfl⟩)
  ·cases e
  ·cases e
  ·show Bb _ _ (retInt (Dv [knd.hash x.1,Kt knd x.2])) _ _ _
   refine wpAny_ret_mkInt ?_
   show Bb _ _ (if(decide (-(2:Int) ^ 63<=Dv [knd.hash x.1,Kt knd x.2]) && decide (Dv [knd.hash x.1,Kt knd x.2]<2 ^ 63))=true then _ else _) Q E _
   have et:s.toks+1+(x.2.length+1)+1=s.toks+(x.2.length+3):=by lia
   unfold sZ Ux at h
   by_cases hr:(decide (-(2:Int) ^ 63<=Dv [knd.hash x.1,Kt knd x.2]) && decide (Dv [knd.hash x.1,Kt knd x.2]<2 ^ 63))=true
   ·rw[Ab1 hr]
    rw[Ab1 hr, <-et]at h
    exact Ac h
   ·rw[Ab0 hr]
    rw[Ab0 hr, <-et]at h
    exact Aa (Jj (Ac h))
def aEm{x y:K×List K}{a b:Addr}{P:Fin->Shared->Prop}(hu:A.units<cLine)(hx:bN knd s.heap x a)(hy:bN knd s.heap y b)(h:P (.done (.ret (.bool (decide (x=y))))) s):
  Bb #v[b] A (Builtin.«tuple.__eq__» #[[.ref a,.ref b],[]]) P E s:=by
 have hTb:=hy.typeIs;obtain⟨oa,va,ba,na,hoa,_,hda,h1,h2⟩:=hx;obtain⟨ob,vb,bb,nb,hob,_,hdb,h1',h2'⟩:=hy;show Bb _ _ (Va (.ref b) (.type "tuple")>>=_) _ _ s;refine Aa (Ez hTb Ku ?_)
 ac_rfl
 refine Aa (Kb hoa hda ?_);refine Aa (Kb hob hdb ?_);refine Aa ?_;refine Fz _
  (λrest r s'=>r.1=none/\s'=s/\((rest=[(va,vb),(.ref ba,.ref bb)])∨(rest=[(.ref ba,.ref bb)]/\x.1=y.1)∨(rest=[]/\x=y)))
  _ ?_ ?_ _ _ #[rfl,rfl,.inl rfl]
 ·rintro⟨u,v⟩ rest r s' ⟨hr,rfl,(e|⟨e,e1⟩|⟨e,_⟩)⟩
  ·obtain⟨e2,rfl⟩:=Dy e;cases e2;refine Aa (knd.eqBool (a:=x.1) (b:=y.1) h1 h1' ?_);by_cases hk:x.1=y.1
   ·rw[Ab5 hk]
    ac_rfl
    exact Ac #[by first|rfl|trivial,by first|rfl|trivial,by first|exact .inr (.inl #[rfl,hk])|simp[hk]]
   ·rw[Ab6 hk];simp only[Lm,Ac2];have hf:decide (x=y)=false:=Ab6 λz=>hk (by rw[z]);rw[hf]at h;exact Aa (Ac (Ac (Ac h)))
  ·obtain⟨e2,rfl⟩:=Dy e;cases e2;refine Aa (wpAny_eqBool_tuple hu h2 h2' ?_);by_cases hk:x.2=y.2
   ·rw[Ab5 hk]
    ac_rfl
    exact Ac #[by first|rfl|trivial,by first|rfl|trivial,by first|exact .inr (.inr #[rfl,Qi e1 hk])|simp[e1,hk,Prod.ext_iff]]
   ·rw[Ab6 hk];simp only[Lm,Ac2];have hf:decide (x=y)=false:=Ab6 λz=>hk (by rw[z]);rw[hf]at h;exact Aa (Ac (Ac (Ac h)))
  ·cases e
 ·rintro⟨r1,r2⟩ s' ⟨hr,rfl,(e|⟨e,_⟩|⟨_,e⟩)⟩
  ·cases e
  ·cases e
  ·simp only at hr;subst hr;refine Ac ?_;rw[Ab5 e]at h;exact h
def wR{x y:K×List K}{a b:Addr}(hu:A.units+1<cLine)(hx:bN knd s.heap x a)(hy:bN knd s.heap y b)(h:Q (decide (x=y)) s):
  Bb #v[b] A (eqBool (.ref a) (.ref b)) Q E s:=by
 unfold eqBool
 try with_reducible refine Ce ?_
 show Bb _ _ (if(As a==As b)=true then _ else _) Q E s;by_cases hab:(As a==As b)=true
 ·rw[Ab1 hab];have e:a=b:=by have:=Ab8 hab;injection this
  subst e;obtain rfl:=hx.inj hy;exact Aa (Jj (Ac (by simpa using h)))
 ·rw[Ab0 hab];exact Aa (Tc (op:=.Eq) hx.typeIs hy.typeIs Aan
   (Bw Aan hx.typeIs F.entry_tuple_eq (aEm (by show A.units+1<cLine;exact hu) hx hy #[_,rfl,(λe=>nomatch e),Ec h]) (F.args_tuple_eq_2 _ _)) ∅)
def rK(hk:Kq knd s.heap ks a)(h:Q true s):Bb #v[b] A (Wx (n+1) (.ref a)) Q E s:=by
 have hT:=hk.typeIs;obtain⟨o,items,m,ho,_,hd,hi⟩:=hk;unfold Wx;refine Aa (Ex hT F.slot_tuple_eq.lookup ?_);show Bb _ _ (Va (.ref a) (.type "tuple")>>=_) _ _ s;refine Aa (Ez hT Ku ?_)
 ac_rfl
 refine Aa (Di ho hd ?_);refine Aa ?_;show Bb _ _ (forIn items _ _) _ _ s;rw[<-Gf];refine Fz _ (λrest r s'=>r.1=none/\s'=s/\∀v∈rest,Ug v=true) _ ?_ ?_ _ _ #[rfl,rfl,hi.byValue]
 ·rintro v rest r s' ⟨hr,rfl,hall⟩;rw[Zz _ (hall v Ah)];refine Aa (Ac ?_)
  ac_rfl
  exact Ac #[rfl,rfl,λu hu'=>hall u (Af _ hu')]
 ·rintro⟨r1,r2⟩ s' ⟨hr,rfl,_⟩;simp only at hr;subst hr;exact Ac h
def tQ{x:K×List K}(hk:bN knd s.heap x a)(h:Q true s):Bb #v[b] A (Wx 8 (.ref a)) Q E s:=by
 have hT:=hk.typeIs;obtain⟨o,v,b,m,ho,_,hd,h1,h2⟩:=hk;unfold Wx;refine Aa (Ex hT F.slot_tuple_eq.lookup ?_);show Bb _ _ (Va (.ref a) (.type "tuple")>>=_) _ _ s;refine Aa (Ez hT Ku ?_)
 ac_rfl
 refine Aa (Di ho hd ?_);refine Aa ?_;show Bb _ _ (forIn _ _ _) _ _ s;rw[<-Gf];refine Fz _ (λrest r s'=>r.1=none/\s'=s/\∀u∈rest,u=v∨u=.ref b) _ ?_ ?_ _ _ #[rfl,rfl,λu hu=>by simpa using hu]
 ·rintro u rest r s' ⟨hr,rfl,hall⟩;rcases hall u Ah with rfl|rfl
  ·rw[Zz _ (knd.byValue _ _ h1)];refine Aa (Ac ?_)
   ac_rfl
   exact Ac #[rfl,rfl,λu hu'=>hall u (Af _ hu')]
  ·refine Aa (rK h2 ?_)
   ac_rfl
   exact Ac #[rfl,rfl,λu hu'=>hall u (Af _ hu')]
 ·rintro⟨r1,r2⟩ s' ⟨hr,rfl,_⟩;simp only at hr;subst hr;exact Ac h
end
def cX{prog:An}{w:Bh}{K:Type} [DecidableEq K](knd:KeyKind prog w K):Iq prog w (K×List K) where
 is:=bN knd
 hash:=sZ knd
 draws:=λx=>x.2.length+3
 room:=λA=>A.units+1<cLine
 inj:=λhx hy=>hx.inj hy
 keeps:=λx ho hd hs=>x.keeps ho hd hs
 pyHash:=λhu hk h=>wU hu hk h
 eqBool:=λhu hx hy h=>wR hu hx hy h
 quiet:=λhk h=>tQ hk h
namespace SetTable
def iV(mask:Nat):Nat->Nat×Nat->Nat×Nat
 |0,p=>p
 |m+1,p=>iV mask m (leap mask p.1 p.2)
theorem uK(mask:Nat):∀m p,(iV mask m p).2=p.2 / 32 ^ m
 |0,p=>by rw[iV,Nat.pow_zero,Nat.div_one]
 |m+1,p=>by
  rw[iV,uK mask m];show p.2 / 32 / 32 ^ m=_;rw[Nat.div_div_eq_div_mul,Nat.pow_succ,Aa5]
theorem aCw(mask:Nat):∀m k p,iV mask (m+k) p=iV mask k (iV mask m p)
 |0,k,p=>by rw[Kf,iV]
 |m+1,k,p=>by rw[Aa4,iV,aCw mask m k,iV]
def five(mask i:Nat):Nat:=(i*5+1) % (mask+1)
def aF9(mask:Nat):Nat->Nat->Nat
 |0,i=>i
 |m+1,i=>aF9 mask m (five mask i)
theorem aAy(mask:Nat):∀m i,(iV mask m (i,0))=(aF9 mask m i,0)
 |0,i=>rfl
 |m+1,i=>by
  rw[iV,aF9];show iV mask m ((i*5+1+0 / 32) % (mask+1),0 / 32)=_;rw[Nat.zero_div,Nat.add_zero];exact aAy mask m (five mask i)
theorem aGm(mask:Nat):∀m p,(iV mask (m+1) p).1<=mask
 |0,p=>by
  show(p.1*5+1+p.2 / 32) % (mask+1)<=mask;have:=Ss (p.1*5+1+p.2 / 32) (show 0<mask+1 by lia)
  lia
 |m+1,p=>by rw[iV];exact aGm mask m _
def Round(mask:Nat):Prop:=∀i,i<=mask->∀e,e<=mask->∃k,k<=mask/\aF9 mask (k+1) i=e
def aRa{mask:Nat}(h:∀i:_root_.Fin (mask+1),∀e:_root_.Fin (mask+1),∃k:_root_.Fin (mask+1),aF9 mask (k.1+1) i.1=e.1):Round mask:=λi hi e he=>by
 obtain⟨k,hk⟩:=h #[i,∅] #[e,∅];exact#[k.1,∅,hk]
def aYd:Round 7:=aRa #v[4]
def aI3{mask:Nat}(R:Round mask)(he:e<=mask)(i perturb:Nat)(hp:perturb<2 ^ 64):∃L,1<=L/\L<=mask+14/\(iV mask L (i,perturb)).1=e:=by
 have h13:(iV mask 13 (i,perturb)).2=0:=by
  rw[uK];exact Nat.div_eq_of_lt (Bn hp ⋯)
 have hi:=aGm mask 12 (i,perturb);obtain⟨k,hk,e1⟩:=R _ hi e he;refine#[13+(k+1),∅,∅,?_];rw[aCw];have e2:iV mask 13 (i,perturb)=((iV mask 13 (i,perturb)).1,0):=Qi rfl h13;rw[e2,aAy];exact e1
variable {t:SetTable}{hashAt:Nat->Int}{h:Int}
def aRc(mask i:Nat):Th mask i-i<=9:=by unfold Th;split<;>lia
def aSt(hd:∀j,t.slot j≠.dummy)(he:t.slot e=.empty):∀(fuel:Nat)(p:Probe)(L:Nat),1<=L->(iV t.mask L (p.i,p.perturb)).1=e->p.more+2+10*(L-1)<=fuel->∃m,Li t hashAt h fuel p=some m:=by
 intro fuel;induction fuel with
 |zero=>intro p L h1 _ h3;lia
 |succ fuel ih=>
  intro p L h1 h2 h3;have step:∃m,Li t hashAt h fuel (t.advance p)=some m:=by
   unfold advance;by_cases hm:p.more>0
   ·rw[Ab1 hm];exact ih _ L h1 h2 (by show p.more-1+2+10*(L-1)<=fuel;lia)
   ·rw[Ab0 hm];match L,h1 with
    |1,_=>
     have h4:(leap t.mask p.i p.perturb).1=e:=h2;cases fuel with
     |zero=>lia
     |succ f=>
      show∃m,(match t.slot (leap t.mask p.i p.perturb).1 with|.empty=>_|.dummy=>_|.live i=>_)=some m;rw[h4,he];exact#[_,rfl]
    |L+2,_=>
     have hr:=aRc t.mask (leap t.mask p.i p.perturb).1;exact ih _ (L+1) ∅ h2 (by show Th t.mask (leap t.mask p.i p.perturb).1-(leap t.mask p.i p.perturb).1+2+10*(L+1-1)<=fuel;lia)
  show∃m,(match t.slot p.j with|.empty=>some (.empty p.j p.dummy)|.dummy=>Li t hashAt h fuel (t.advance {p with dummy:=some p.j})|.live i=>if(hashAt i==h)=true then some (.candidate p.j i (t.advance p))else Li t hashAt h fuel (t.advance p))=some m;cases hs:t.slot p.j with
  |empty=>exact#[_,rfl]
  |dummy=>exact Ab2 hs (hd _)
  |live i=>
   by_cases hh:(hashAt i==h)=true
   ·exact#[_,Ab1 hh]
   ·obtain⟨m,hm⟩:=step;exact#[m,by simp only;rw[Ab0 hh];exact hm]
def aJj(R:Round t.mask)(he:e<=t.mask)(hd:∀j,t.slot j≠.dummy)(hs:t.slot e=.empty)(p:Probe)(hp:p.perturb<2 ^ 64)(hm:p.more<=9):∃m,t.probe hashAt h p=some m:=by
 obtain⟨L,h1,h2,h3⟩:=aI3 R he p.i p.perturb hp;refine aSt hd hs _ p L h1 h3 ?_;unfold turns
 lia
def uP(xs:Array Nat):Prop:=∀i k,i<k->k<xs.size->xs.getD i 0<xs.getD k 0
def aAw{i a b:Nat}(h:i<xs.size):xs.getD i a=xs.getD i b:=by simp[Ks,h]
def aN2(R:uP xs):∀(fuel lo hi:Nat),lo<=hi->hi<=xs.size->hi-lo<=fuel->(∀i,i<lo->xs.getD i 0<j)->(∀i,hi<=i->i<xs.size->j<=xs.getD i 0)->
  Po xs j fuel lo hi<=xs.size/\(∀i,i<Po xs j fuel lo hi->xs.getD i 0<j)/\∀i,Po xs j fuel lo hi<=i->i<xs.size->j<=xs.getD i 0:=by
 intro fuel;induction fuel with
 |zero=>
  intro lo hi h1 h2 h3 a b;have:lo=hi:=by lia
  subst this;exact#[h2,a,b]
 |succ fuel ih=>
  intro lo hi h1 h2 h3 a b;have key:Po xs j (fuel+1) lo hi=if lo<hi then(if xs.getD ((lo+hi) / 2) j<j then Po xs j fuel ((lo+hi) / 2+1) hi else Po xs j fuel lo ((lo+hi) / 2))else lo:=rfl
  rw[key];by_cases hl:lo<hi
  ·have hm:(lo+hi) / 2<xs.size:=by lia
   rw[Ab1 hl];by_cases hx:xs.getD ((lo+hi) / 2) j<j
   ·rw[Ab1 hx];refine ih _ _ ∅ h2 ∅ (λi hi'=>?_) b;by_cases e:i=(lo+hi) / 2
    ·subst e;rw[aAw hm (b:=j)];exact hx
    ·have:=R i ((lo+hi) / 2) ∅ hm;rw[aAw hm (b:=j)]at this
     lia
   ·rw[Ab0 hx];refine ih _ _ ∅ ∅ ∅ a λi hi' hs=>?_;rw[aAw hm (b:=0)]at hx;by_cases e:i=(lo+hi) / 2
    ·subst e;lia
    ·have:=R ((lo+hi) / 2) i ∅ hs
     lia
  ·have:lo=hi:=by lia
   subst this;rw[Ab0 hl];exact#[h2,a,b]
def iR(R:uP xs)(j:Nat):below xs j<=xs.size/\(∀i,i<below xs j->xs.getD i 0<j)/\∀i,below xs j<=i->i<xs.size->j<=xs.getD i 0:=
 aN2 R _ _ _ (Bp _) (Ak _) ∅ (λi h=>Ab2 h (Eu i)) λi h1 h2=>by lia
def below_at(R:uP xs)(h:i<xs.size):below xs (xs.getD i 0)=i:=by
 obtain⟨_,h2,h3⟩:=iR R (xs.getD i 0);rcases Iw (below xs (xs.getD i 0)) i with z|z|z
 ·have:=h3 (below xs (xs.getD i 0)) (Ak _) ∅;have:=R _ i z h
  lia
 ·exact z
 ·have:=h2 i z
  lia
def aO6{i j:Nat}:xs[i]? =some j↔i<xs.size/\xs.getD i 0=j:=by
 by_cases h:i<xs.size
 ·simp[Ks,h]
 ·simp[h]
def aC6(R:uP t.place){i j:Nat}(h:t.place[i]? =some j):t.slot j=.live i:=by
 obtain⟨h1,rfl⟩:=aO6.mp h;unfold slot;dsimp only;rw[below_at R h1,h];simp
def aJq(hd:t.dummies= (List.toArray []))(h:∀i:Nat,t.place[i]? ≠some j):t.slot j=.empty:=by
 unfold slot;dsimp only;have h1:(t.place[below t.place j]? ==some j)=false:=beq_eq_false_iff_ne.mpr (h _);rw[h1];have h2:has t.dummies j=false:=by rw[hd];unfold has;simp
 rw[h2];rfl
theorem vH(hd:t.dummies= (List.toArray []))(j:Nat):t.slot j=.empty∨∃i:Nat,t.slot j=.live i/\t.place[i]? =some j:=by
 have:has (List.toArray []) j=false:=by simp[has]
 grind [slot]
def rF(hd:t.dummies= (List.toArray []))(j:Nat):t.slot j≠.dummy:=by
 rcases vH hd j with e|⟨i,e,_⟩<;>rw[e]<;>intro z<;>cases z
def aJr(hd:t.dummies= (List.toArray []))(hs:t.place.size<=t.mask):∃e,e<=t.mask/\t.slot e=.empty:=by
 refine Dn λno=>?_;have all:∀e,e<=t.mask->∃i:Nat,t.place[i]? =some e:=λe he=>by
  rcases vH hd e with z|⟨i,_,z⟩
  ·exact Ab2 #[e,he,z] no
  ·exact#[i,z]
 have sub:Bq (t.mask+1) ⊆ t.place.toList:=λe he=>by
  obtain⟨i,hi⟩:=all e (by have:=By.mp he;lia);obtain⟨h1,h2⟩:=Lh.mp hi;rw[<-h2];simp
 have:=(Gw (n:=t.mask+1)).length_le_of_subset sub;rw[Dm,Az]at this
 lia
def aHb(R:Round t.mask)(hd:t.dummies= (List.toArray []))(hs:t.place.size<=t.mask)(p:Probe)(hp:p.perturb<2 ^ 64)(hm:p.more<=9):∃m,t.probe hashAt h p=some m:=by
 obtain⟨e,he,h1⟩:=aJr hd hs;exact aJj R he (rF hd) h1 p hp hm
def adv(mask:Nat)(p:Probe):Probe:=if p.more>0 then{p with j:=p.j+1,more:=p.more-1}else{p with j:=(leap mask p.i p.perturb).1,more:=Th mask (leap mask p.i p.perturb).1-(leap mask p.i p.perturb).1,i:=(leap mask p.i p.perturb).1,perturb:=(leap mask p.i p.perturb).2}
def advs(mask:Nat):Nat->Probe->Probe
 |0,p=>p
 |n+1,p=>advs mask n (adv mask p)
theorem aFm(mask:Nat):∀m k p,advs mask (m+k) p=advs mask k (advs mask m p)
 |0,k,p=>by rw[Kf,advs]
 |m+1,k,p=>by rw[Aa4,advs,aFm mask m k,advs]
def aCh(mask:Nat)(p:Probe):(adv mask p).dummy=p.dummy:=by unfold adv;split<;>rfl
def aV3(fuel:Nat)(p:Probe):Li t hashAt h (fuel+1) p=match t.slot p.j with|.empty=>some (.empty p.j p.dummy)|.dummy=>Li t hashAt h fuel (t.advance {p with dummy:=some p.j})|.live i=>if(hashAt i==h)=true then some (.candidate p.j i (t.advance p))else Li t hashAt h fuel (t.advance p):=rfl
def aSu(hd:∀j,t.slot j≠.dummy):∀(fuel:Nat)(p:Probe)(N:Nat),t.slot (advs t.mask N p).j=.empty->N<fuel->p.dummy=none->
    ∃n,n<=N/\(∀m,m<n->∃i,t.slot (advs t.mask m p).j=.live i/\hashAt i≠h)/\
      ((t.slot (advs t.mask n p).j=.empty/\Li t hashAt h fuel p=some (.empty (advs t.mask n p).j none))∨
       ∃i,t.slot (advs t.mask n p).j=.live i/\hashAt i=h/\Li t hashAt h fuel p=some (.candidate (advs t.mask n p).j i (advs t.mask (n+1) p))):=by
  intro fuel;induction fuel with
  |zero=>intro p N _ h2;lia
  |succ fuel ih=>
    intro p N h1 h2 h3;rw[aV3];cases hs:t.slot p.j with
    |empty=>exact#[0,Bp _,λm hm=>Ab2 hm (Eu m),.inl #[hs,by rw[h3];rfl]]
    |dummy=>exact Ab2 hs (hd _)
    |live i=>
      by_cases hh:hashAt i=h
      · exact#[0,Bp _,λm hm=>Ab2 hm (Eu m),.inr #[i,hs,hh,by dsimp only;rw[Ab1 (beq_iff_eq.mpr hh)];rfl]]
      · cases N with
        |zero=>
          have h1':t.slot p.j=.empty:=h1;rw[hs]at h1';cases h1'
        |succ N=>
          obtain⟨n,a1,a2,a3⟩:=ih (adv t.mask p) N h1 ∅ (by rw[aCh];exact h3);have hb:¬(hashAt i==h)=true:=λz=>hh (beq_iff_eq.mp z);refine#[n+1,∅,λm hm=>?_,?_]
          · cases m with
            |zero=>exact#[i,hs,hh]
            |succ m=>exact a2 m ∅
          · rcases a3 with ⟨b1,b2⟩|⟨i',b1,b2,b3⟩
            · exact .inl #[b1,by dsimp only;rw[Ab0 hb];exact b2]
            · exact .inr #[i',b1,b2,by dsimp only;rw[Ab0 hb];exact b3]
def aO8(hn:∀i,hashAt i≠h)(hd:∀j,t.slot j≠.dummy):∀(fuel:Nat)(p:Probe)(m:Met),Li t hashAt h fuel p=some m->∃N,N<fuel/\t.slot (advs t.mask N p).j=.empty:=by
 intro fuel;induction fuel with
 |zero=>intro p m e;cases e
 |succ fuel ih=>
  intro p m e;rw[aV3]at e;cases hs:t.slot p.j with
  |empty=>exact#[0,Um _,hs]
  |dummy=>exact Ab2 hs (hd _)
  |live i=>
   rw[hs]at e;dsimp only at e;rw[Ab0 (λz=>hn i (beq_iff_eq.mp z))]at e;obtain⟨N,h1,h2⟩:=ih _ _ e;exact#[N+1,∅,h2]
def aIp(R:Round t.mask)(hd:t.dummies= (List.toArray []))(hs:t.place.size<=t.mask)(p:Probe)(hp:p.perturb<2 ^ 64)(hm:p.more<=9):∃N,N<10*turns t.mask/\t.slot (advs t.mask N p).j=.empty:=by
 obtain⟨m,e⟩:=aHb (hashAt:=λ_=>1) (h:=0) R hd hs p hp hm;exact aO8 (hashAt:=λ_=>1) (h:=0) (λ_=>by decide) (rF hd) _ p m e
def aHf(t:SetTable)(h:Int):(t.probeStart h).perturb<2 ^ 64/\(t.probeStart h).more<=9:=by
 refine#[?_,aRc _ _];show bits h<2 ^ 64;unfold bits;have h1:=Rh h (show((2:Int) ^ 64)≠0 by decide);have h2:=Pa h (show(0:Int)<2 ^ 64 by decide)
 lia
def uH(t:SetTable)(h:Int)(j:Nat):Prop:=∃n,(advs t.mask n (t.probeStart h)).j=j/\∀m,m<n->t.slot (advs t.mask m (t.probeStart h)).j≠.empty
def uH.ahead{j N:Nat}(w:uH t h j)(hj:t.slot j≠.empty)(hN:t.slot (advs t.mask N (t.probeStart h)).j=.empty):∃n,n<N/\(advs t.mask n (t.probeStart h)).j=j:=by
 obtain⟨n,e,a⟩:=w;rcases Iw n N with z|z|z
 ·exact#[n,z,e]
 ·subst z;rw[e]at hN;exact Ab2 hN hj
 ·exact Ab2 hN (a N z)
def fM(xs:Array α)(p:Nat)(x:α):(Nf xs p x).toList=xs.toList.take p++x::xs.toList.drop p:=by
 unfold Nf;simp[Array.toList_extract];exact Fx (by simp)
def aG4:uP xs↔xs.toList.Pairwise (·<·):=by
 rw[Jg];constructor
 ·intro R i k hi hk hik;have h2:k<xs.size:=by simpa using hk
  have:=R i k hik h2;have h1:i<xs.size:=by lia
  simpa[Ks,h1,h2]using this
 ·intro R i k hik hk;have h1:i<xs.size:=by lia
  have:=R i k (by simpa using h1) (by simpa using hk) hik;simpa[Ks,h1,hk]using this
def aMg:(∃i:Nat,t.place[i]? =some j)↔j∈t.place.toList:=by
 rw[Cu];simp
def jP(R:uP t.place)(hd:t.dummies= (List.toArray [])):t.slot j=.empty↔j∉t.place.toList:=by
 rw[<-aMg];constructor
 ·rintro e ⟨i,hi⟩;rw[aC6 R hi]at e;cases e
 ·intro no;exact aJq hd λi z=>no #[i,z]
def aG2(R:uP t.place)(hj:j∉t.place.toList):uP (Nf t.place (below t.place j) j):=by
 obtain⟨hb,h1,h2⟩:=iR R j;rw[aG4,fM];have Rl:=aG4.mp R;have lo:∀x∈t.place.toList.take (below t.place j),x<j:=λx hx=>by
  obtain⟨i,hi,e⟩:=Hn hx;rw[Gg]at hi;rw[List.getElem_take]at e;have hs:i<t.place.size:=by simp at hi;lia
  have:=h1 i ∅;rw[<-e];simpa[Ks,hs]using this
 have hi':∀x∈t.place.toList.drop (below t.place j),j<x:=λx hx=>by
  have hm:x∈t.place.toList:=Ko hx;obtain⟨i,hi,e⟩:=Hn hx;rw[Fs]at hi;rw[List.getElem_drop]at e;have hs:below t.place j+i<t.place.size:=by simp at hi;lia
  have:=h2 (below t.place j+i) ∅ hs;have h3:j<=x:=by rw[<-e];simpa[Ks,hs]using this
  have h4:j≠x:=λz=>hj (z▸hm)
  lia
 rw[Us];refine#[Rl.sublist (Pg _ _),List.pairwise_cons.mpr #[hi',Rl.sublist (List.drop_sublist _ _)],λx hx y hy=>?_];have:=lo x hx;rcases Ax.mp hy with e|m
 ·lia
 ·have:=hi' y m;lia
def kO(hd:t.dummies= (List.toArray []))(j:Nat):t.put j=({t with place:=Nf t.place (below t.place j) j},below t.place j):=by
 unfold put;have h2:has t.dummies j=false:=by rw[hd];unfold has;simp
 rw[h2];rfl
theorem aA3{p j x:Nat}:x∈(Nf xs p j).toList↔x=j∨x∈xs.toList:=by rw[fM];have:=Gb p xs.toList;grind
def oF(xs:Array α)(x:α)(h:p<=xs.size):(Nf xs p x).size=xs.size+1:=by
 rw[<-Az,fM,Am,Ao,Gg,Fs,Az]
 lia
structure Good(t:SetTable):Prop where
 dum:t.dummies= (List.toArray [])
 rise:uP t.place
 low:∀j∈t.place.toList,j<=t.mask
 room:t.place.size<=t.mask
 round:Round t.mask
def Good.put(G:Good t)(hj:t.slot j=.empty)(hl:j<=t.mask)(hr:t.place.size+1<=t.mask):Good (t.put j).1:=by
 rw[kO G.dum];have nj:=(jP G.rise G.dum).mp hj;refine#[G.dum,aG2 G.rise nj,λx hx=>?_,?_,G.round]
 ·rcases aA3.mp hx with e|m
  ·rw[e];exact hl
  ·exact G.low x m
 ·show(Nf t.place (below t.place j) j).size<=t.mask;rw[oF _ _ (iR G.rise j).1];exact hr
def Good.put_empty(G:Good t)(hj:t.slot j=.empty)(x:Nat):(t.put j).1.slot x=.empty↔t.slot x=.empty/\x≠j:=by
 have nj:=(jP G.rise G.dum).mp hj;rw[kO G.dum];rw[jP (t:={t with place:=Nf t.place (below t.place j) j}) (aG2 G.rise nj) G.dum,jP G.rise G.dum];show x∉(Nf t.place (below t.place j) j).toList↔_;rw[aA3,not_or];exact#[λz=>#[z.2,z.1],λz=>#[z.2,z.1]]
def uH.put(G:Good t){j x:Nat}(hj:t.slot j=.empty)(w:uH t h x):uH (t.put j).1 h x:=by
 obtain⟨n,e,a⟩:=w;have em:(t.put j).1.mask=t.mask:=by rw[kO G.dum]
 have es:(t.put j).1.probeStart h=t.probeStart h:=by rw[kO G.dum];rfl
 refine#[n,by rw[em,es];exact e,λm hm z=>?_];rw[em,es]at z;exact a m hm ((G.put_empty hj _).mp z).1
def uH.new(G:Good t)(hj:t.slot (advs t.mask N (t.probeStart h)).j=.empty)(a:∀m,m<N->t.slot (advs t.mask m (t.probeStart h)).j≠.empty):uH (t.put (advs t.mask N (t.probeStart h)).j).1 h (advs t.mask N (t.probeStart h)).j:=by
 have em:(t.put (advs t.mask N (t.probeStart h)).j).1.mask=t.mask:=by rw[kO G.dum]
 have es:(t.put (advs t.mask N (t.probeStart h)).j).1.probeStart h=t.probeStart h:=by rw[kO G.dum];rfl
 refine#[N,by rw[em,es],λm hm z=>?_];rw[em,es]at z;exact a m hm ((G.put_empty hj _).mp z).1
end SetTable
section
variable {prog:An}{w:Bh}{K:Type} [DecidableEq K](knd:Iq prog w K)
structure pN(s:Shared)(a:Addr)(o:Obj)(es:Array (Int×Value))(ep:Nat)(t:SetTable)(xs:List (K×Addr)):Prop where
 ho:s.heap.get? a=some o
 hex:o.ExactSet
 hd:o.data=.set es ep t
 he:es.toList=xs.map λx=>(knd.hash x.1,As x.2)
 good:t.Good
 size:t.place.size=es.size
 keys:∀x∈xs,knd.is s.heap x.1 x.2
 nd:(xs.map (·.1)).Nodup
 way:∀(i j:Nat)(x:K×Addr),t.place[i]? =some j->xs[i]? =some x->SetTable.uH t (knd.hash x.1) j
variable {knd}{A:Cm}{E:#v[5]}{s:Shared}{a b:Addr}{o:Obj}{es:Array (Int×Value)}{ep:Nat}{t:SetTable}{xs:List (K×Addr)}{k:K}
structure uI(knd:Iq prog w K):Prop where
 mono:∀{h h':Heap}{k:K}{c:Addr},knd.is h k c->(∀b o,o.cls=.type "tuple"->h.get? b=some o->h'.get? b=some o)->knd.is h' k c
 byValue:∀{A:Cm}{E:#v[5]}{s:Shared}{k:K}{c:Addr}{Q:Bool->Shared->Prop},knd.is s.heap k c->Q true s->Bb #v[b] A (Ng 8 (.ref c)) Q E s
 plain:∀{A:Cm}{E:#v[5]}{s:Shared}{k:K}{c:Addr}{Q:Bool->Shared->Prop},knd.is s.heap k c->Q false s->Bb #v[b] A (Ho 8 (.ref c)) Q E s
def uI.keep(D:uI knd){k:K}{o:Obj}(hx:knd.is h k c)(ho:h.get? d=some o)(hex:o.ExactSet)(sb:Eo d h h'):knd.is h' k c:=D.mono hx λb o' hc e=>by
 have ne:b≠d:=by
  rintro rfl;rw[ho]at e;cases e;rw[hex.1]at hc;exact Ab2 hc ⋯
 rw[sb.2 b ne];exact e
def zL(D:uI knd)(hkey:knd.is s.heap k b)(hy:∀y∈ys,∃x c,y=As c/\knd.is s.heap x c)(h:Q false s):Bb #v[b] A (Zy (.ref b) ys) Q E s:=by
 unfold Zy;refine Aa ?_;refine Fz _ (λrest r s'=>r.1=none/\s'=s/\∀v∈rest,∃x c,v=As c/\knd.is s.heap x c) _ ?_ ?_ _ _ #[rfl,rfl,hy]
 ·rintro v rest r s' ⟨hr,rfl,hall⟩;obtain⟨x,c,rfl,hx⟩:=hall v Ah;dsimp only;have nx:∀u∈rest,∃x c,u=As c/\knd.is s'.heap x c:=λu hu=>hall u (Af _ hu);split
  ·exact Ac #[rfl,rfl,nx]
  ·refine Aa (knd.quiet hkey ?_)
   ac_rfl
   refine Aa (knd.quiet hx ?_)
   ac_rfl
   refine Aa (D.plain hkey ?_)
   ac_rfl
   refine Aa (D.plain hx ?_)
   ac_rfl
   exact Ac #[rfl,rfl,nx]
 ·rintro⟨r1,r2⟩ s' ⟨hr,rfl,_⟩;simp only at hr;subst hr;exact Ac h
def pN.fits(S:pN knd s a o es ep t xs):t.fits es.size=true:=by
 unfold Ql Qm;have h1:=S.size;have h2:=S.good.room;rw[S.good.dum];simp[h1]
 lia
def pN.len(S:pN knd s a o es ep t xs):es.size=xs.length:=by rw[<-Az,S.he,Ab]
def pN.entry(S:pN knd s a o es ep t xs)(i:Nat):es[i]? =(xs[i]?).map λx=>(knd.hash x.1,As x.2):=by
 rw[<-De,S.he,Bg]
def pN.even(S:pN knd s a o es ep t xs)(hm:t.mask % 2=1):t.gaveWay=false:=by
 unfold SetTable.gaveWay;rw[hm];rfl
def wV(S:pN knd s a o es ep t xs)(hm:t.mask % 2=1)(D:uI knd)(hu:knd.room A)(hkey:knd.is s.heap k b)(hN:t.slot #v[1].j=.empty)(hF:N<10*Mv t.mask)
  (first:∀m,m<N->t.slot (SetTable.advs t.mask m #v[l]).j≠.empty) {Q:SetFound->Shared->Prop} (hold:(∃x∈xs,x.1=k)->Q (.there none) s) (hnew:(∀x∈xs,x.1≠k)->Q (.free #v[1].j false) s):
  ∀(fuel n:Nat)(stand:Option SetTable.Probe),stand.getD #v[l]=SetTable.advs t.mask n #v[l]->n<=N->N-n<fuel->(∀m,m<n->∃(i:Nat)(x:K×Addr),t.slot (SetTable.advs t.mask m #v[l]).j=.live i/\xs[i]? =some x/\x.1≠k)->
   Bb #v[b] A (setSearchFrom a (.ref b) (knd.hash k) true fuel stand) Q E s:=by
 intro fuel;induction fuel with
 |zero=>intro n stand _ _ h3;lia
 |succ fuel ih=>
  intro n stand h1 h2 h3 past;have dumA:∀m p,(SetTable.advs t.mask m p).dummy=p.dummy:=by
   intro m;induction m with
   |zero=>intro p;rfl
   |succ m ih=>intro p;rw[SetTable.advs,ih,SetTable.aCh]
  unfold setSearchFrom;refine Aa (Gr S.ho S.hd S.fits ?_);dsimp only;rw[S.even hm]
  ac_rfl
  rw[h1];have comp:∀m,SetTable.advs t.mask m (SetTable.advs t.mask n #v[l])=SetTable.advs t.mask (n+m) #v[l]:=λm=>(SetTable.aFm t.mask n m _).symm;have ent:∀i:Nat,(es[i]?.map (·.1)).getD 0=((xs[i]?).map λx=>knd.hash x.1).getD 0:=λi=>by
   rw[S.entry i,Option.map_map];rfl
  have inx:∀(i j:Nat),t.slot j=.live i->∃x,xs[i]? =some x/\t.place[i]? =some j:=λi j hs=>by
   rcases SetTable.vH S.good.dum j with z|⟨i',z1,z2⟩
   ·rw[hs]at z;cases z
   ·rw[hs]at z1;cases z1;have hi:i<t.place.size:=(Lh.mp z2).1;rw[S.size,S.len]at hi;exact#[xs[i],Ag hi,z2]
  obtain⟨n',a1,a2,a3⟩:=SetTable.aSu (t:=t) (hashAt:=λi:Nat=>(es[i]?.map (·.1)).getD 0) (h:=knd.hash k) (SetTable.rF S.good.dum) (10*Mv t.mask) (SetTable.advs t.mask n #v[l]) (N-n) (by rw[comp,show n+(N-n)=N by lia];exact hN) ∅ (by rw[dumA];rfl);rw[comp]at a3;rcases a3 with ⟨b1,b2⟩|⟨i,b1,b2,b3⟩
  ·have eN:n+n'=N:=by
    rcases Pp (n+n') N with z|z
    ·exact Ab2 b1 (first _ z)
    ·lia
   have e:t.probe (λi:Nat=>(es[i]?.map (·.1)).getD 0) (knd.hash k) (SetTable.advs t.mask n #v[l])=some (.empty (SetTable.advs t.mask (n+n') #v[l]).j none):=b2
   erw[e]
   dsimp only;rw[eN];refine Ac (hnew λx hx ek=>?_);obtain⟨i,hi⟩:=Cu.mp hx;have his:i<t.place.size:=by rw[S.size,S.len];exact(Ay.mp hi).1
   have hpl:t.place[i]? =some t.place[i]:=Bz his;have hsl:=SetTable.aC6 S.good.rise hpl;have wy:=S.way i _ x hpl hi;rw[ek]at wy;obtain⟨m,hm1,hm2⟩:=wy.ahead (by rw[hsl];intro z;cases z) hN;rcases Pp m n with z|z
   ·obtain⟨i',x',c1,c2,c3⟩:=past m z;rw[hm2,hsl]at c1;cases c1;rw[hi]at c2;cases c2;exact c3 ek
   ·obtain⟨i',c1,c2⟩:=a2 (m-n) ∅;rw[comp,show n+(m-n)=m by lia,hm2,hsl]at c1;cases c1;rw[ent,hi]at c2;exact c2 (by rw[<-ek];rfl)
  ·obtain⟨x,hx,hpl⟩:=inx i _ b1;have hxm:=Ai hx;have e:t.probe (λi:Nat=>(es[i]?.map (·.1)).getD 0) (knd.hash k) (SetTable.advs t.mask n #v[l])=some (.candidate (SetTable.advs t.mask (n+n') #v[l]).j i (SetTable.advs t.mask (n'+1) (SetTable.advs t.mask n #v[l]))):=b3
   erw[e]
   dsimp only;cases hl:t.led
   focus
    simp only[Lm,Ac2];refine Aa (zL D hkey (λy hy=>?_) ?_);obtain⟨e,he,rfl⟩:=Aj.mp hy;have he2:=(Array.mem_filter.mp (Nn.mp he)).1;rw[<-Nn,S.he]at he2;obtain⟨x',hx',rfl⟩:=Aj.mp he2;exact#[_,_,rfl,S.keys x' hx']
    ac_rfl
   rotate_left
   focus
    ac_rfl
   all_goals
    rw[S.entry i,hx];dsimp only[Jp];refine Aa (Ce (knd.eqBool hu (S.keys x hxm) hkey ?_));refine Aa (Gr S.ho S.hd S.fits ?_);by_cases ek:x.1=k
    ·rw[Ab5 ek];simp only[Bool.and_self,Ac2];exact Ac (hold #[x,hxm,ek])
    ·rw[Ab6 ek];simp only[Ji,Dg,Ac1];have sm:t.sameMemory t.moves t.mask=some true:=by unfold SetTable.sameMemory;simp
     rw[sm];simp only[Ac2];rw[b1];dsimp only;rw[S.entry i,hx];dsimp only[Jp];refine Aa (wpAny_isSame_ref_self ?_);simp only[Ac2];refine Aa (Ac ?_);dsimp only;have lt:n+n'<N:=by
      rcases Pp (n+n') N with z|z
      ·exact z
      ·have z2:n+n'=N:=by lia
       rw[z2,hN]at b1;cases b1
     refine ih (n+(n'+1)) _ (by show SetTable.advs t.mask (n'+1) _=_;rw[comp]) ∅ ∅ λm hm'=>?_;rcases Pp m n with z|z
     ·exact past m z
     ·by_cases z2:m=n+n'
      ·subst z2;exact#[i,x,b1,hx,ek]
      ·obtain⟨i',c1,c2⟩:=a2 (m-n) ∅;rw[comp,show n+(m-n)=m by lia]at c1;obtain⟨x',hx',_⟩:=inx i' _ c1;refine#[i',x',c1,hx',λek'=>c2 ?_];rw[ent,hx', <-ek'];rfl
def aDg{o:Obj}(es':Array (Int×Value))(t':SetTable)(hd:o.data=.set es ep t)(h:o.ExactSet):(Nq es' t' o).ExactSet:=by
 rw[Ti es' t' hd];exact h
theorem get_ins{l:List α}{p i:Nat}{y x:α}(hp:p<=l.length)(h:(l.take p++x::l.drop p)[i]? =some y):(i<p/\l[i]? =some y)∨(i=p/\y=x)∨(p<i/\l[i-1]? =some y):=by grind
def pN.add(S:pN knd s a o es ep t xs)(hkey:knd.is s.heap k b)(hn:∀x∈xs,x.1≠k)(hkeep:∀h',Eo a s.heap h'->∀x c,knd.is s.heap x c->knd.is h' x c)(hN:t.slot #v[1].j=.empty)
  (first:∀m,m<N->t.slot (SetTable.advs t.mask m #v[l]).j≠.empty) (hl:#v[1].j<=t.mask) (hroom:t.place.size+1<=t.mask) {j p:Nat} (ej:j=#v[1].j) (epp:p=Do t.place j):
  pN knd {s with heap:=s.heap.update a (Nq (Jr es p (knd.hash k,.ref b)) (t.put j).1)} a (Nq (Jr es p (knd.hash k,.ref b)) (t.put j).1 o) (Jr es p (knd.hash k,.ref b)) (ep+1) (t.put j).1 (xs.take p++(k,b)::xs.drop p):=by
 subst ej epp;have hb:=(SetTable.iR S.good.rise #v[1].j).1;have hbx:Do t.place #v[1].j<=xs.length:=by rw[<-S.len, <-S.size];exact hb
 have hnf:(Nq (Jr es (Do t.place #v[1].j) (knd.hash k,.ref b)) (t.put #v[1].j).1 o).isFreed=false:=by
  rw[Ti _ _ S.hd];rfl
 refine#[Bt _ S.ho hnf,aDg _ _ S.hd S.hex,by rw[Ti _ _ S.hd],?_,S.good.put hN hl hroom,?_,λx hx=>?_,?_,λi j x h1 h2=>?_]
 ·rw[SetTable.fM,S.he, <-Su, <-Sw,Co,Bj]
 ·rw[SetTable.kO S.good.dum];show(Jr t.place _ _).size=_;rw[SetTable.oF _ _ hb,SetTable.oF _ _ (by rw[<-S.size];exact hb),S.size]
 ·rcases Bd.mp hx with m|m
  ·exact hkeep _ (Cv ..) _ _ (S.keys x (Iz m))
  ·rcases Ax.mp m with e|m
   ·rw[e];exact hkeep _ (Cv ..) _ _ hkey
   ·exact hkeep _ (Cv ..) _ _ (S.keys x (Ko m))
 ·have pm:((xs.take (Do t.place #v[1].j)++(k,b)::xs.drop (Do t.place #v[1].j)).map (·.1)).Perm (k::xs.map (·.1)):=by
   have:=(Mm (a:=(k,b)) (l₁:=xs.take (Do t.place #v[1].j)) (l₂:=xs.drop (Do t.place #v[1].j))).map (·.1);rw[Gb]at this;exact this
  rw[pm.nodup_iff,Dx];refine#[λm=>?_,S.nd];obtain⟨x,hx,e⟩:=Aj.mp m;exact hn x hx e
 ·rw[SetTable.kO S.good.dum]at h1;have h1':(t.place.toList.take (Do t.place #v[1].j)++#v[1].j::t.place.toList.drop (Do t.place #v[1].j))[i]? =some j:=by
   rw[<-SetTable.fM,De];exact h1
  have gp:=get_ins (by rw[Az];exact hb) h1';have gx:=get_ins hbx h2;rcases gp with ⟨z1,z2⟩|⟨z1,z2⟩|⟨z1,z2⟩
  ·rcases gx with ⟨y1,y2⟩|⟨y1,y2⟩|⟨y1,y2⟩
   ·exact(S.way i j x (by rw[<-De];exact z2) y2).put S.good hN
   ·lia
   ·lia
  ·rcases gx with ⟨y1,y2⟩|⟨y1,y2⟩|⟨y1,y2⟩
   ·lia
   ·rw[z2,y2];exact SetTable.uH.new S.good hN first
   ·lia
  ·rcases gx with ⟨y1,y2⟩|⟨y1,y2⟩|⟨y1,y2⟩
   ·lia
   ·lia
   ·exact(S.way (i-1) j x (by rw[<-De];exact z2) y2).put S.good hN
end
namespace SetTable
def stP(M:Nat)(i perturb:Nat):Probe:={j:=i,more:=Th M i-i,i,perturb,dummy:=none}
def st(M:Nat)(h:Int):Probe:=stP M (bits h % (M+1)) (bits h)
def aSi(M:Nat)(h:p.j+p.more<=M):(adv M p).j+(adv M p).more<=M:=by
 unfold adv;split
 ·show p.j+1+(p.more-1)<=M;lia
 ·show(leap M p.i p.perturb).1+(Th M (leap M p.i p.perturb).1-(leap M p.i p.perturb).1)<=M;have:(leap M p.i p.perturb).1<=M:=by
   show(p.i*5+1+p.perturb / 32) % (M+1)<=M;have:=Ss (p.i*5+1+p.perturb / 32) (show 0<M+1 by lia)
   lia
  unfold Th;split<;>lia
theorem aFn(M:Nat):∀(n:Nat){p:Probe},p.j+p.more<=M->(advs M n p).j<=M
 |0,_,h=>by rw[advs];lia
 |n+1,_,h=>by rw[advs];exact aFn M n (aSi M h)
def aYi(M:Nat)(h:Int):(st M h).j+(st M h).more<=M:=by
 show bits h % (M+1)+(Th M (bits h % (M+1))-bits h % (M+1))<=M;have:=Ss (bits h) (show 0<M+1 by lia);unfold Th;split<;>lia
end SetTable
theorem filterMap_get{α β:Type}{f:α->Option β}{l:List α}(h:∀i∈l,∃y,f i=some y)(r:Nat):(l.filterMap f)[r]? =l[r]?.bind f:=by
 induction l generalizing r with
 |nil=>simp
 |cons a l ih=>obtain⟨y,hy⟩:=h a Ah;cases r<;>grind
def zG(l:List α):(Bq l.length).filterMap (λi:Nat=>l[i]?)=l:=by
 apply Mb;intro r;rw[filterMap_get (λi hi=>#[l[i]'(By.mp hi),Ag (By.mp hi)])];by_cases h:r<l.length
 ·rw[Vg h];rfl
 ·rw[Gc (by rw[Dm];lia),Gc ∅];rfl
section
variable {prog:An}{w:Bh}{K:Type} [DecidableEq K]{knd:Iq prog w K}{A:Cm}{E:#v[5]}{s:Shared}{a b:Addr}{o:Obj}{es:Array (Int×Value)}{ep:Nat}{t:SetTable}{xs:List (K×Addr)}{k:K}
end
namespace SetTable
variable {t:SetTable}
def aF8(G:t.Good)(h:Int):∃N,N<10*turns t.mask/\t.slot (advs t.mask N (t.probeStart h)).j=.empty/\∀m,m<N->t.slot (advs t.mask m (t.probeStart h)).j≠.empty:=by
 obtain⟨N,h1,h2⟩:=aIp G.round G.dum G.room (t.probeStart h) (aHf t h).1 (aHf t h).2;induction N using Nj with
 |_ N ih=>
  by_cases hx:∃m,m<N/\t.slot (advs t.mask m (t.probeStart h)).j=.empty
  ·obtain⟨m,hm,e⟩:=hx;exact ih m hm ∅ e
  ·exact#[N,h1,h2,λm hm e=>hx #[m,hm,e]]
def Small(t:SetTable):Prop:=t.mask=7/\t.place.size<=4
def Small.odd(S:t.Small):t.mask % 2=1:=by rw[S.1]
end SetTable
section
variable {prog:An}{w:Bh}{K:Type} [DecidableEq K](knd:Iq prog w K)
def mC(s:Shared)(a:Addr)(l:Bool)(xs:List (K×Addr)):Prop:=∃o es ep t,pN knd s a o es ep t xs/\t.Small/\t.plain=true/\t.led=l
variable {knd}{A:Cm}{E:#v[5]}{s:Shared}{a b:Addr}{o:Obj}{es:Array (Int×Value)}{ep:Nat}{t:SetTable}{xs:List (K×Addr)}{k:K}{l:Bool}
def mC.at(D:uI knd)(S:mC knd s a l xs)(h1:∀o,s.heap.get? a=some o->s'.heap.get? a=some o)(h2:∀b o,o.cls=.type "tuple"->s.heap.get? b=some o->s'.heap.get? b=some o):mC knd s' a l xs:=by
 obtain⟨o,es,ep,t,S,r⟩:=S;exact#[o,es,ep,t,#[h1 o S.ho,S.hex,S.hd,S.he,S.good,S.size,λx hx=>D.mono (S.keys x hx) h2,S.nd,S.way],r]
def aH8(x:Addr)(es:Array (Int×Value)):byScan (.ref x) es=false:=rfl
def qK(D:uI knd)(S:mC knd s a l xs)(hn:xs.length<4)(hu:knd.room A)(hkey:knd.is s.heap k b)
  (hold:(∃x∈xs,x.1=k)->Q false s)
  (hnew:(∀x∈xs,x.1≠k)->∀h' xs',Eo a s.heap h'->xs'.Perm ((k,b)::xs)->mC knd {s with heap:=h'} a l xs'->Q true {s with heap:=h'}):
  Bb #v[b] A (Rn a (.ref b) (knd.hash k)) Q E s:=by
 obtain⟨o,es,ep,t,S,sm,pl,rfl⟩:=S;unfold Rn;refine Ce ?_;unfold setAddHashedIn;refine Aa (Gr S.ho S.hd S.fits ?_);dsimp only;rw[aH8]
 ac_rfl
 obtain⟨N,n1,n2,n3⟩:=SetTable.aF8 S.good (knd.hash k);have bigm:10*Mv t.mask<=100000:=by
  unfold Mv;rw[sm.1];decide
 refine Aa (wV S sm.odd D hu hkey n2 n1 n3 (λh=>?_) (λh=>?_) 100000 0 none rfl (Bp _) ∅ λm hm=>Ab2 hm (Eu m))
 ·exact Ac (hold h)
 ·dsimp only;refine Aa (Gr S.ho S.hd S.fits ?_);dsimp only;have lowj:#v[1].j<=t.mask:=SetTable.aFn _ _ (SetTable.aYi _ _);have hsz:t.place.size+1<=t.mask:=by have:=sm.1;have:=sm.2;lia
  have S':=S.add hkey h (λh' sb x c hx=>D.keep hx S.ho S.hex sb) n2 n3 lowj hsz rfl rfl;have hb:=(SetTable.iR S.good.rise #v[1].j).1;have psz:(t.put #v[1].j).1.place.size=t.place.size+1:=by
   rw[SetTable.kO S.good.dum];exact SetTable.oF _ _ hb
  have pmk:(t.put #v[1].j).1.mask=t.mask:=by rw[SetTable.kO S.good.dum]
  have ppl:(t.put #v[1].j).1.plain=true:=by rw[SetTable.kO S.good.dum];exact pl
  have pld:(t.put #v[1].j).1.led=t.led:=by rw[SetTable.kO S.good.dum]
  have p2:(t.put #v[1].j).2=Do t.place #v[1].j:=by rw[SetTable.kO S.good.dum]
  have pm:=(Mm (a:=(k,b)) (l₁:=xs.take (Do t.place #v[1].j)) (l₂:=xs.drop (Do t.place #v[1].j)));rw[Gb]at pm;have fl:(t.put #v[1].j).1.fill=t.place.size+1:=by
   unfold Qm;rw[psz,S'.good.dum];rfl
  rw[ppl];simp only[Ac2];refine Aa (D.byValue hkey ?_);simp only[Ac2,p2];have els:=S'.len;have eln:=S.len;have hxl:=pm.length_eq;rw[Ao]at hxl;refine Aa (Zt S.ho S.hd ?_ (by rw[els,hxl];unfold sizeLine;lia));by_cases full:(t.put #v[1].j).1.tooFull=true
  ·unfold SetTable.tooFull at full;rw[fl,pmk,sm.1]at full;have full:=Ab3 full;have sz:=S.size
   lia
  ·have full:=Wp.mpr full;rw[full];simp only[Ji,Dg,Ac1];refine Ac (hnew h _ _ (Cv ..) pm #[_,_,_,_,S',?_,ppl,pld]);have sz:=S.size;unfold SetTable.Small;rw[pmk,psz];exact#[sm.1,∅]
end
def rP(n:Nat)(i:Int)(tk):Ng n (.int i tk)=pure true:=by cases n<;>rfl
def wA(n:Nat)(h:Ug v=true):Ho n v=pure false:=by
 cases v with
 |ref a=>cases h
 |_=>first|rfl|(unfold Ho;rfl)
section
variable {prog:An}{w:Bh}{K:Type} [DecidableEq K]{knd:KeyKind prog w K}{A:Cm}{E:#v[5]}{s:Shared}
def ItemsAre.ints(hv:∀k v,knd.is k v=true->∃i tk,v=Ey i tk)(hx:ItemsAre knd x vs):∀v∈vs,∃i tk,v=Ey i tk:=by
 induction hx with
 |nil=>intro v hv;simp at hv
 |@cons k v' ks vs h1 _ ih=>
  intro v hm;rcases Ax.mp hm with rfl|hm
  ·exact hv _ _ h1
  ·exact ih v hm
def qI(hv:∀k v,knd.is k v=true->∃i tk,v=Ey i tk)(hk:Kq knd s.heap ks a)(h:Q true s):Bb #v[b] A (Ng (n+1) (.ref a)) Q E s:=by
 have hT:=hk.typeIs;obtain⟨o,items,m,ho,_,hd,hi⟩:=hk;unfold Ng;refine Aa (Ex hT F.slot_tuple_hash.lookup ?_);show Bb _ _ (Qa (.ref a)>>=_) _ _ s;refine Aa (Di ho hd ?_);refine Aa ?_;show Bb _ _ (forIn items _ _) _ _ s;rw[<-Gf];refine Fz _ (λrest r s'=>r.1=none/\s'=s/\∀v∈rest,∃i tk,v=Ey i tk) _ ?_ ?_ _ _ #[rfl,rfl,hi.ints hv]
 ·rintro v rest r s' ⟨hr,rfl,hall⟩;obtain⟨i,tk,rfl⟩:=hall v Ah;rw[rP];refine Aa (Ac ?_)
  ac_rfl
  exact Ac #[rfl,rfl,λu hu'=>hall u (Af _ hu')]
 ·rintro⟨r1,r2⟩ s' ⟨hr,rfl,_⟩;simp only at hr;subst hr;exact Ac h
def rM(hv:∀k v,knd.is k v=true->∃i tk,v=Ey i tk)(hk:bN knd s.heap x a)(h:Q true s):Bb #v[b] A (Ng 8 (.ref a)) Q E s:=by
 have hT:=hk.typeIs;obtain⟨o,v,b,m,ho,_,hd,h1,h2⟩:=hk;unfold Ng;refine Aa (Ex hT F.slot_tuple_hash.lookup ?_);show Bb _ _ (Qa (.ref a)>>=_) _ _ s;refine Aa (Di ho hd ?_);refine Aa ?_;show Bb _ _ (forIn _ _ _) _ _ s;rw[<-Gf];refine Fz _ (λrest r s'=>r.1=none/\s'=s/\∀u∈rest,u=v∨u=.ref b) _ ?_ ?_ _ _ #[rfl,rfl,λu hu=>by simpa using hu]
 ·rintro u rest r s' ⟨hr,rfl,hall⟩;rcases hall u Ah with rfl|rfl
  ·obtain⟨i,tk,rfl⟩:=hv _ _ h1;rw[rP];refine Aa (Ac ?_)
   ac_rfl
   exact Ac #[rfl,rfl,λu hu'=>hall u (Af _ hu')]
  ·refine Aa (qI hv h2 ?_)
   ac_rfl
   exact Ac #[rfl,rfl,λu hu'=>hall u (Af _ hu')]
 ·rintro⟨r1,r2⟩ s' ⟨hr,rfl,_⟩;simp only at hr;subst hr;exact Ac h
def tR(hk:Kq knd s.heap ks a)(h:Q false s):Bb #v[b] A (Ho (n+1) (.ref a)) Q E s:=by
 have hT:=hk.typeIs;obtain⟨o,items,m,ho,_,hd,hi⟩:=hk;unfold Ho;refine Aa (Jb hT ?_);dsimp only;simp only[Ac0,Ac2];refine Aa (Ac ?_)
 ac_rfl
 refine Aa (Di ho hd ?_);dsimp only;refine Aa ?_;rw[<-Gf];refine Fz _ (λrest r s'=>r.1=none/\s'=s/\∀v∈rest,Ug v=true) _ ?_ ?_ _ _ #[rfl,rfl,hi.byValue]
 ·rintro v rest r s' ⟨hr,rfl,hall⟩;rw[wA _ (hall v Ah)];refine Aa (Ac ?_)
  ac_rfl
  exact Ac #[rfl,rfl,λu hu'=>hall u (Af _ hu')]
 ·rintro⟨r1,r2⟩ s' ⟨hr,rfl,_⟩;simp only at hr;subst hr;exact Ac h
def uD(hk:bN knd s.heap x a)(h:Q false s):Bb #v[b] A (Ho 8 (.ref a)) Q E s:=by
 have hT:=hk.typeIs;obtain⟨o,v,b,m,ho,_,hd,h1,h2⟩:=hk;unfold Ho;refine Aa (Jb hT ?_);dsimp only;simp only[Ac0,Ac2];refine Aa (Ac ?_)
 ac_rfl
 refine Aa (Di ho hd ?_);dsimp only;refine Aa ?_;rw[<-Gf];refine Fz _ (λrest r s'=>r.1=none/\s'=s/\∀u∈rest,u=v∨u=.ref b) _ ?_ ?_ _ _ #[rfl,rfl,λu hu=>by simpa using hu]
 ·rintro u rest r s' ⟨hr,rfl,hall⟩;rcases hall u Ah with rfl|rfl
  ·rw[wA _ (knd.byValue _ _ h1)];refine Aa (Ac ?_)
   ac_rfl
   exact Ac #[rfl,rfl,λu hu'=>hall u (Af _ hu')]
  ·refine Aa (tR h2 ?_)
   ac_rfl
   exact Ac #[rfl,rfl,λu hu'=>hall u (Af _ hu')]
 ·rintro⟨r1,r2⟩ s' ⟨hr,rfl,_⟩;simp only at hr;subst hr;exact Ac h
def IsTupleKey.monoS(x:Kq knd h ks a)(hs:∀b o,o.cls=.type "tuple"->h.get? b=some o->h'.get? b=some o):Kq knd h' ks a:=by
 obtain⟨o',items,n,ho',hc,hd',hi⟩:=x;exact#[o',items,n,hs _ _ hc ho',hc,hd',hi]
def bN.monoS(hx:bN knd h x a)(hs:∀b o,o.cls=.type "tuple"->h.get? b=some o->h'.get? b=some o):bN knd h' x a:=by
 obtain⟨o',v,b,n,ho',hc,hd',h1,h2⟩:=hx;exact#[o',v,b,n,hs _ _ hc ho',hc,hd',h1,h2.monoS hs]
def aQi(hv:∀k v,knd.is k v=true->∃i tk,v=Ey i tk):uI (cX knd) where
 mono:=λx hs=>bN.monoS x hs
 byValue:=λx h=>rM hv x h
 plain:=λx h=>uD x h
end
namespace F
def dI:Slot "set_iterator" "__next__" "set_iterator.__next__":=
 .of (owner:="set_iterator") (n:="__next__") (by rw[Lr,Jf];kernel_rfl) #v[4] #v[4] #v[4]
  (by first|exact .inl #v[4]|exact .inr #v[4]) (by rw[Ue];kernel_rfl)
def jQ:Slot "set_iterator" "__iter__" "set_iterator.__iter__":=
 .of (owner:="set_iterator") (n:="__iter__") (by rw[Lr,Jf];kernel_rfl) #v[4] #v[4] #v[4]
  (by first|exact .inl #v[4]|exact .inr #v[4]) (by rw[Ue];kernel_rfl)
def pX:Yq table "set_iterator.__next__"=some Builtin.«set_iterator.__next__»:=Aax (by kernel_rfl)
def pW:Yq table "set_iterator.__iter__"=some Builtin.«dict_keyiterator.__iter__»:=
 entryFor_alias (id':="dict_keyiterator.__iter__") (by kernel_rfl) (by first|rfl|decide+kernel) #v[4] (by kernel_rfl)
def aAs:Yq table "set.__iter__"=some Builtin.«frozenset.__iter__»:=
 entryFor_alias (id':="frozenset.__iter__") (by kernel_rfl) (by first|rfl|decide+kernel) #v[4] (by kernel_rfl)
def nM:Manifest.owners.lookup (String.ofList ['r','o','t','a','r','e','t','i','_','t','e','s'].reverse)=some Manifest.sig_set_iterator:=by kernel_rfl
def oW(a:Value):Yw "set_iterator.__next__" #[[a],[]]:=by
 unfold Yw;rw[signature?_of (id:="set_iterator.__next__") (n:=['_','_','t','x','e','n','_','_']) (o:=['r','o','t','a','r','e','t','i','_','t','e','s']) (by kernel_rfl) nM];kernel_rfl
def oV(a:Value):Yw "set_iterator.__iter__" #[[a],[]]:=by
 unfold Yw;rw[signature?_of (id:="set_iterator.__iter__") (n:=['_','_','r','e','t','i','_','_']) (o:=['r','o','t','a','r','e','t','i','_','t','e','s']) (by kernel_rfl) nM];kernel_rfl
end F
theorem fQ{α:Type}:∀{l:List α}{n:Nat}(h:n<l.length),(l[n]::l.eraseIdx n).Perm l
 | [],_,h=>Ab2 h (Eu _)
 |a::l,0,_=>Kx _
 |a::l,n+1,h=>by
  have h':n<l.length:=Tx h;show(l[n]::a::l.eraseIdx n).Perm (a::l);exact(Vh _ _ _).trans ((fQ (Tx h)).cons a)
def aA8(next:Nat->Nat)(xs:Array α):(Wu next xs).toList.Perm xs.toList:=by
 have go:∀(fuel k:Nat)(left:List α)(out:Array α),left.length=fuel->(Qx next fuel k left out).toList.Perm (out.toList++left):=by
  intro fuel;induction fuel with
  |zero=>
   intro k left out h;have:left=[]:=Dp.mp h;subst this;simp[Qx]
  |succ fuel ih=>
   intro k left out h;have hlt:next k % left.length<left.length:=Ss _ ∅;rw[Qx,Ag hlt];dsimp only;refine(ih _ _ _ (by rw[List.length_eraseIdx_of_lt hlt];lia)).trans ?_;rw[Wg,Cz];refine List.Perm.append_left _ ?_;exact fQ hlt
 exact go xs.size 0 xs.toList (List.toArray []) (by simp)
section
variable {prog:An}{w:Bh}{A:Cm}{E:#v[5]}{s:Shared}
def gZ(w:Bh)(S:Addr)(es:Array (Int×Value))(ep:Nat):List Value:=if w.params.followText "set-order"=true then(Wu (w.params.setOrder S ep) es).toList.map (·.2)else es.toList.map (·.2)
def lN(w:Bh)(S:Addr)(es:Array (Int×Value))(ep:Nat):(gZ w S es ep).Perm (es.toList.map (·.2)):=by
 unfold gZ;split
 ·exact(aA8 _ _).map _
 ·exact Kx _
def aAj(w:Bh)(t:SetTable)(slot i:Nat):Prop:=w.params.followText "set-order"=true∨Do t.place slot=i
def aH7(R:SetTable.uP xs)(h:i<xs.size):Do xs (xs.getD i 0+1)=i+1:=by
 obtain⟨h1,h2,h3⟩:=SetTable.iR R (xs.getD i 0+1);rcases Iw (Do xs (xs.getD i 0+1)) (i+1)with z|z|z
 ·have:=h3 i ∅ h
  lia
 ·exact z
 ·have:=h2 (i+1) z;have:=R i (i+1) ∅ ∅
  lia
def aCc{slot i:Nat}{Q:Option (Value×Nat)->Shared->Prop}(ho:s.heap.get? S=some o)(hd:o.data=.set es ep t)(hf:t.fits es.size=true)(hr:SetTable.uP t.place)(hpl:t.plain=true)(hl:t.led= !w.params.followText "set-order")
  (hs:aAj w t slot i) (h1:∀v slot',(gZ w S es ep)[i]? =some v->aAj w t slot' (i+1)->Q (some (v,slot')) s) (h2:es.size<=i->Q none s):Bb #v[b] A (setNext S slot i ep) Q E s:=by
 have psz:t.place.size=es.size:=by
  simp only[Ql,Kl,beq_iff_eq,decide_eq_true_eq]at hf;exact hf.1
 unfold setNext Zx;refine Aa (Gr ho hd hf ?_);dsimp only;refine Aa (Aa (Le (Ac ?_)));dsimp only[model];have olen:(gZ w S es ep).length=es.size:=by rw[(lN w S es ep).length_eq,Ab,Az]
 cases hb:w.params.followText "set-order"
 ·ac_rfl
  have hs:Do t.place slot=i:=by
   rcases hs with z|z
   ·rw[hb]at z;cases z
   ·exact z
  show Bb _ _ (if(!t.plain && decide (es.size>1))=true then _ else _) _ _ _;rw[hpl];simp only[Oy,Lo,Dg,Ac1];show Bb _ _ ((if(!t.led && !es.isEmpty)=true then _ else _)>>=_) _ _ _;rw[hl,hb];simp only[Lm,Oy,Lo,Dg,Ac1];refine Aa (Ac ?_);rw[hs];have eo:(gZ w S es ep)[i]? =(es[i]?).map (·.2):=by
   unfold gZ;rw[hb];simp
  by_cases hi:i<es.size
  ·have hp:i<t.place.size:=by lia
   rw[Bz hi,Bz hp];refine Ac (h1 _ _ (by rw[eo,Bz hi];rfl) (.inr ?_));have:=aH7 hr hp;simpa[Ks,hp]using this
  ·rw[Mq ∅];exact Ac (h2 ∅)
 ·simp only[Ac2];rw[Ab0 (by simp)];unfold setWalk Zx;refine Aa (Aa (Gr ho hd hf ?_));dsimp only;refine Aa (Aa (Le (Ac ?_)));dsimp only[model];rw[hb];simp only[Ac2];refine Aa (Le ?_);refine Ac ?_;dsimp only[model];have eo:(gZ w S es ep)[i]? =((Wu (w.params.setOrder S ep) es)[i]?).map (·.2):=by
   unfold gZ;rw[hb];simp
  cases hg:(Wu (w.params.setOrder S ep) es)[i]? with
  |none=>
   rw[hg]at eo;have:=Rv.mp eo;exact Ac (h2 ∅)
  |some e=>
   rw[hg]at eo;exact Ac (h1 _ _ eo (.inl hb))
def pL(h:Heap)(I S:Addr)(slot i n ep:Nat):Prop:=∃o,h.get? I=some o/\o.cls=.type "set_iterator"/\o.data=.fields (List.toArray [.int slot 0,.int i 0,.ref S,.int n 0,.int ep 0])
def pL.typeIs{slot i n ep:Nat}(h:pL s.heap I S slot i n ep):s.TypeIs (.ref I) "set_iterator":=let⟨o,ho,hc,_⟩:=h;#[o,ho,hc]
variable {I S:Addr}{o:Obj}{es:Array (Int×Value)}{ep:Nat}{t:SetTable}{slot i:Nat}
def qJ{Q:#v[10]->Shared->Prop}(hh:A.handled=none)(hit:pL s.heap I S slot i es.size ep)(ho:s.heap.get? S=some o)(hd:o.data=.set es ep t)(hf:t.fits es.size=true)(hr:SetTable.uP t.place)(hpl:t.plain=true)(hl:t.led= !w.params.followText "set-order")
  (hs:aAj w t slot i) (h1:∀v slot' h',(gZ w S es ep)[i]? =some v->aAj w t slot' (i+1)->pL h' I S slot' (i+1) es.size ep->Eo I s.heap h'->Q (some v) {s with heap:=h'}) (h2:es.size<=i->∀h',Qs I s.heap h'->Q none {s with heap:=h'}):
  Bb #v[b] A (Gv (.ref I)) Q E s:=by
 obtain⟨oi,hoi,hci,hdi⟩:=id hit;unfold Gv;refine Aa (Hw (Cw (name:=Eh "__next__") hit.typeIs F.dI
  (Bw F.dI hit.typeIs F.pX ?_ (F.oW _))))
 unfold Builtin.«set_iterator.__next__»;refine Aa (m:=slotArgs "__next__" 0 _) (Ac ?_);refine Aa (Mi hoi hdi ?_);dsimp only;refine Aa (Xw ho hd hf ?_);rw[Ab0 (by simp)];simp only[Ck];refine Aa (aCc ho hd hf hr hpl hl hs (λv slot' e ok=>?_) λhge=>?_)
 ·dsimp only;refine Aa (Hk hoi hdi (by simp) ?_);have hoi2:=Bt (Kv (·.setIfInBounds 0 (Ka slot'))) hoi (Ij (Ep hdi _));have hdi2:=Ep hdi (·.setIfInBounds 0 (Ka slot'));refine Aa (Hk hoi2 hdi2 (by simp) ?_);refine Ac #[_,rfl,Ac (h1 v slot' _ e ok #[_,Bt _ hoi2 (Ij (Ep hdi2 _)),(Kc ..).trans ((Kc ..).trans hci),by rw[Ep hdi2];simp[Ka]] (Aba (Cv ..) (Cv ..)))]
 ·dsimp only;refine Aa (Hk hoi hdi (by simp) ?_);show Bb _ _ (Uz (.type "StopIteration") []>>=_) _ _ _;refine Aa ?_;simp only[Uz,Yn];refine Aa (Cd ?_ (by size_fits));refine Aa (m:=Ia _ _) (Nd (a:=Cb) (by first|rfl|(simp only[Ia];rfl)) ?_);refine Cd ?_ (by size_fits);simp only[Ym];refine Aa (Px ?_);rw[show A.in1.handled=none from hh];refine Aa (Ac (Sz ?_));refine Aa (Ez (T:="StopIteration") (b:=true) #[_,Au _ rfl,rfl] Mj ?_);exact Ac (h2 hge _ (((Cv ..).extBut.push _).push _))
def Walks.set(hh:A.handled=none)(hne:S≠I)(o:Obj)(hd:o.data=.set es ep t)(hf:t.fits es.size=true)(hr:SetTable.uP t.place)(hpl:t.plain=true)(hl:t.led= !w.params.followText "set-order"):
  Walks prog w A I [I,S] [I] es.size (λi v=>(gZ w S es ep)[i]? =some v) (λi h=>(∃slot,pL h I S slot i es.size ep/\aAj w t slot i)/\h.get? S=some o) where
 sub:=λb hb=>by simp at hb;simp[hb]
 frame:=λ_ _ _ st hk=>by
  obtain⟨⟨slot,⟨oi,h1,h2⟩,h3⟩,h4⟩:=st;exact#[#[slot,#[oi,hk I (by simp) _ h1,h2],h3],hk S (by simp) _ h4]
 item:=λi s Q E hi st hQ=>by
  obtain⟨⟨slot,h1,h3⟩,h4⟩:=st;refine qJ hh h1 h4 hd hf hr hpl hl h3 (λv slot' h' e ok it' sb=>?_) λhge=>Ab2 hi ∅;exact hQ _ h' s.toks e #[#[slot',it',ok],(sb.2 S hne).trans h4] λb o hb e=>sb.extBut b o (λh=>hb (by simp[h])) e
 done:=λs Q E st hQ=>by
  obtain⟨⟨slot,h1,h3⟩,h4⟩:=st;refine qJ hh h1 h4 hd hf hr hpl hl h3 (λv slot' h' e ok it' sb=>?_) λhge h' he'=>hQ h' s.toks λb o hb e=>he' b o (λh=>hb (by simp[h])) e;have olen:(gZ w S es ep).length=es.size:=by rw[(lN w S es ep).length_eq,Ab,Az]
  rw[Gc ∅]at e;cases e
 self:=λ_ _ _ _ st hQ=>by
  obtain⟨⟨slot,h1,h3⟩,h4⟩:=st;refine Km h1.typeIs F.jQ (Bw F.jQ h1.typeIs F.pW ?_ (F.oV _));show Bb _ _ (ret (.ref I)) _ _ _;exact Ac #[_,rfl,"set_iterator",_,h1.typeIs,F.dI.lookup,hQ]
end
namespace F
def aE2:isSubtype (.type "set") (.type "set")=pure true:=by rw[Ue];kernel_rfl
end F
section
variable {prog:An}{w:Bh}{A:Cm}{E:#v[5]}{s:Shared}{I S:Addr}{o:Obj}{es:Array (Int×Value)}{ep:Nat}{t:SetTable}
def yJ{Q:#v[5]}(ho:s.heap.get? S=some o)(hex:o.ExactSet)(hd:o.data=.set es ep t)(hf:t.fits es.size=true)(hpl:t.plain=true)
  (hQ:Q (.ref #v[0]) {s with heap:=s.heap.push {cls:=.type "set_iterator",data:=.fields (List.toArray [.int 0 0,.int 0 0,.ref S,.int es.size 0,.int ep 0])}}):Bb #v[b] A (Uy (.ref S)) Q E s:=by
 have hT:s.TypeIs (.ref S) "set":=#[o,ho,hex.1];refine Km hT Aao (Bw Aao hT F.aAs ?_ (F.args_set_iter_1 _));unfold Builtin.«frozenset.__iter__»;refine Aa (m:=Xh "__iter__" _) (Ac ?_);unfold Xi;refine Aa (Aa (Xw ho hd hf (Ac ?_)));unfold setDrawn Zx;refine Aa (Aa (Gr ho hd hf ?_));dsimp only;refine Aa (Aa (Le (Ac ?_)));show Bb _ _ (pure (!#v[b].w.params.followText "set-order" && (!t.plain && decide (es.size>1)))) _ _ _;rw[hpl];simp only[Oy,Lo,Ji];refine Ac ?_
 ac_rfl
 refine Aa (Ac ?_);refine Aa (wpAny_setEpoch_of ho hd hf ?_);unfold newFields;refine Aa (Cd (Ac #[_,rfl,"set_iterator",_,#[_,Au _ rfl,rfl],F.dI.lookup,?_]));simpa[Ka]using hQ
def oR{Q:List Value->Shared->Prop}(hh:A.handled=none)(ho:s.heap.get? S=some o)(hex:o.ExactSet)(hd:o.data=.set es ep t)(hf:t.fits es.size=true)(hr:SetTable.uP t.place)(hpl:t.plain=true)(hl:t.led= !w.params.followText "set-order")(hn:es.size<=sizeLine)
  (hQ:∀h' tk,#v[0]<h'.objs.size->(∀b o,s.heap.get? b=some o->h'.get? b=some o)->Q (gZ w S es ep) {s with heap:=h',toks:=tk}):Bb #v[b] A (collect (.ref S)) Q E s:=by
 have hSlt:S<#v[0]:=Aw ho;unfold collect;refine Aa (wpAny_runValue (Dq F.entry_proto_collect ?_));rw[Ci F.plain_proto_collect _];show Bb _ A.in1 (Xz []>>=λl=>again (.builtin "list.__iadd__" #[[l,.ref S],[]])) _ _ s;refine Aa (Cd ?_);refine Ac #[Fc Yi _,Dq F.entry_list_iadd ?_];rw[Ci Yi _];have ho1:(s.heap.push {cls:=.type "list",data:=.seq ([]:List Value).toArray}).get? S=some o:=Ae _ ho;have hT1:Lx {s with heap:=s.heap.push {cls:=.type "list",data:=.seq ([]:List Value).toArray}} (.ref S) "set":=#[o,ho1,hex.1];have hS₁:(s.heap.push {cls:=.type "list",data:=.seq ([]:List Value).toArray}).get? #v[0]=some {cls:=.type "list",data:=.seq ([]:List Value).toArray}:=Au _ rfl;have hne:#v[0]≠S:=Gm hSlt;have h1:Il (.ref #v[0]) (.ref S)=false:=by simp[Il,hne]
 show Bb _ A.in1 (Ew (.ref #v[0]) (.ref S) (.ref #v[0])) _ _ _;unfold Ew;refine Aa (Jb hT1 ?_);rw[Ab0 (by rw[h1];decide)];refine Aa (yJ ho1 hex hd hf hpl ?_);have esz:(s.heap.push {cls:=.type "list",data:=.seq ([]:List Value).toArray}).objs.size=#v[0]+1:=Df ..;rw[esz];generalize hH2:(s.heap.push {cls:=.type "list",data:=.seq ([]:List Value).toArray}).push {cls:=.type "set_iterator",data:=.fields (List.toArray [.int 0 0,.int 0 0,.ref S,.int es.size 0,.int ep 0])}=H2;have keep2:∀b o,s.heap.get? b=some o->H2.get? b=some o:=λb o e=>by rw[<-hH2];exact Ae _ (Ae _ e)
 have ho2:H2.get? S=some o:=keep2 _ _ ho;have hL2:H2.get? #v[0]=some {cls:=.type "list",data:=.seq ([]:List Value).toArray}:=by rw[<-hH2];exact Ae _ hS₁
 have hI2:H2.get? (#v[0]+1)=some {cls:=.type "set_iterator",data:=.fields (List.toArray [.int 0 0,.int 0 0,.ref S,.int es.size 0,.int ep 0])}:=by rw[<-hH2, <-esz];exact Au _ rfl
 have hT2:Lx {s with heap:=H2} (.ref S) "set":=#[o,ho2,hex.1];refine Aa (Ce ?_);unfold Oc;refine Aa (Ex hT2 F.slot_set_len.lookup ?_)
 (generalize hid:("set.__len__":String)=id0;(fail_if_success (clear hid id0));wp_delta;rw[show splitId id0=some ("set","__len__")from by subst hid;decide+kernel];subst hid)
 refine Aa (Ez (b:=true) hT2 F.aE2 ?_)
 ac_rfl
 rw[Ab1 #v[4]];refine Aa (Jb hT2 ?_);refine Ac ?_;rw[Ab1 #v[4]];show Bb _ A.in1 (rule "list.extend.makes-room">>=λ_=>Pl (.ref #v[0])>>=λ_=>
  again (.builtin "list.extend.loop" #[[.ref #v[0],.ref (#v[0]+1),.ref #v[0]],[]])) _ _ _
 refine Aa (Jj ?_);refine Aa ?_;show Bb _ A.in1 (Mu #v[0] (·.push .none)>>=λ_=>Mu #v[0] (·.pop)) _ _ _;refine Aa (Gu hL2 rfl ?_);have hS₂:=Bt (Ea (·.push Cb)) hL2 rfl;refine Gu hS₂ rfl ?_;have hS₃:=Bt (Ea (·.pop)) hS₂ rfl;have oth:∀b o,b≠#v[0]->H2.get? b=some o->((H2.update #v[0] (Ea (·.push Cb))).update #v[0] (Ea (·.pop))).get? b=some o:=
  λb o hb e=>(Cp _ _ (Dc hb)).trans ((Cp _ _ (Dc hb)).trans e)
 have hneI:S≠#v[0]+1:=Bc (Iy hSlt);have W:=(Walks.set (prog:=prog) (A:=A.in1) (I:=#v[0]+1) (S:=S) (by simp[hh]) hneI o hd hf hr hpl hl).toS;have hSf:#v[0]∉[#v[0]+1,S]:=by
  simp only[Ax,Ap,Cq,or_false,not_or];exact#[Bc (Gy _),hne]
 refine Ac ⟨Fc F.plain_extend_loop _,codeAny_extend_loopS W hn _ hSf _ es.size 0 _ _ _ rfl (Bp _)
  #[#[0,#[_,oth _ _ (Gm (Gy _)) hI2,rfl,rfl],.inr ?_],oth _ _ hne.symm ho2] hS₃ (ItemsOf.nil _) λs' acc' c' hm hS' hacc=>?_⟩
 ·have:=(SetTable.iR hr 0).2.1;rcases Nat.eq_zero_or_pos (Do t.place 0)with z|z
  ·exact z
  ·exact Ab2 (this 0 z) (Eu _)
 ·show Bb _ A (load #v[0]>>=_) _ _ s';refine Aa (wpAny_load hS' ?_);obtain⟨h',g',d',tk',os'⟩:=s';have eg:g'=s.gens:=hm.gens;have ed:d'=s.drawn:=hm.drawn;have eo:os'=s.os:=hm.os;subst eg;subst ed;subst eo;have ea:acc'.toList=gZ w S es ep:=by
   apply Mb;intro j;have olen:(gZ w S es ep).length=es.size:=by rw[(lN w S es ep).length_eq,Ab,Az]
   by_cases hj:j<acc'.size
   ·rw[De,Bz hj];exact(hacc.2 j _ (Bz hj)).symm
   ·rw[Gc (by rw[Az];lia),Gc (by rw[olen, <-hacc.1];lia)]
  refine Ac ?_;rw[ea];refine hQ h' tk' (Aw hS') λb o e=>?_;have hb:b<#v[0]:=Aw e;exact hm.heap b o (by simp only[Ax,Ap,Cq,or_false,not_or];exact#[Bc hb,Bc (Iy hb)]) (oth b o (Bc hb) (keep2 b o e))
end
end PySem
namespace PySem.W
open PyProof.Rows
def KasT.Way{α:Type}(lt:Nat->Nat->Bool)(P:Nat->Prop):KasT α->(α->Prop)->Prop
 |.ret a,Q=>Q a
 |.ask i j k,Q=>P i/\P j/\(k (lt i j)).Way lt P Q
variable {lt:Nat->Nat->Bool}{P:Nat->Prop}
def KasT.way_bind{α β:Type}{f:α->KasT β}{Q:β->Prop}:∀(t:KasT α),t.Way lt P (λa=>(f a).Way lt P Q)->(t.bind f).Way lt P Q
 |.ret _,h=>h
 |.ask i j k,h=>#[h.1,h.2.1,KasT.way_bind (k (lt i j)) h.2.2]
def KasT.way_mono{α:Type}{Q Q':α->Prop}(hq:∀a,Q a->Q' a):∀(t:KasT α),t.Way lt P Q->t.Way lt P Q'
 |.ret _,h=>hq _ h
 |.ask i j k,h=>#[h.1,h.2.1,KasT.way_mono hq (k (lt i j)) h.2.2]
def KasT.way_wp{α:Type}{cmp:Nat->Nat->(Bool->Shared->Prop)->Shared->Prop}{s:Shared}(hc:∀i j C,P i->P j->C (lt i j) s->cmp i j C s){Q:α->Prop}{G:α->Shared->Prop}(hg:∀a,Q a->G a s):∀(t:KasT α),t.Way lt P Q->t.kasWp cmp G s
 |.ret _,h=>hg _ h
 |.ask i j k,h=>hc i j _ h.1 h.2.1 (KasT.way_wp hc hg (k (lt i j)) h.2.2)
structure qN(n:Nat)(lt:Nat->Nat->Bool):Prop where
 tot:∀i j,i<n->j<n->i≠j->lt i j=true∨lt j i=true
 asym:∀i j,lt i j=true->lt j i=false
 trans:∀i j k,lt i j=true->lt j k=true->lt i k=true
def vAt(p:Array Nat)(i:Nat):Nat:=p.getD i 0
def nC(n:Nat)(p:Array Nat):Prop:=p.toList.Perm (Bq n)
variable {n:Nat}{p:Array Nat}
def nC.size(h:nC n p):p.size=n:=by have:=h.length_eq;rw[Dm,Az]at this;exact this
def lE{p:Array Nat}:vAt p i=(p[i]?).getD 0:=by
 unfold vAt Ks;by_cases h:i<p.size
 ·simp[h]
 ·simp[h]
def nC.low(h:nC n p)(hn:0<n)(i:Nat):vAt p i<n:=by
 rw[lE];cases e:p[i]? with
 |none=>exact hn
 |some x=>
  have:x∈p.toList:=Ai (by rw[De];exact e);exact By.mp (h.mem_iff.mp this)
def nC.inj(h:nC n p)(hi:i<n)(hj:j<n)(e:i≠j):vAt p i≠vAt p j:=by
 have nd:p.toList.Nodup:=h.nodup_iff.mpr Gw;have si:i<p.toList.length:=by rw[Az,h.size];exact hi
 have sj:j<p.toList.length:=by rw[Az,h.size];exact hj
 intro z;have h1:vAt p i=p.toList[i]:=by rw[lE, <-De,Ag si];rfl
 have h2:vAt p j=p.toList[j]:=by rw[lE, <-De,Ag sj];rfl
 rw[h1,h2]at z;exact e ((Kk nd).mp z)
def nC.perm(h:nC n p)(e:q.Perm p):nC n q:=(Array.perm_iff_toList_perm.mp e).trans h
def nZ(lt:Nat->Nat->Bool)(p:Array Nat)(k:Nat):Prop:=∀i j,i<j->j<k->lt (vAt p i) (vAt p j)=true
def aCd(lt:Nat->Nat->Bool)(p:Array Nat)(k:Nat):Prop:=∀i j,i<j->j<k->lt (vAt p j) (vAt p i)=true
def nZ.more(S:qN n lt)(h:nZ lt p k)(hk:1<=k)(e:lt (vAt p (k-1)) (vAt p k)=true):nZ lt p (k+1):=λi j hi hj=>by
 by_cases z:j<k
 ·exact h i j hi z
 ·obtain rfl:j=k:=by lia
  by_cases y:i=j-1
  ·subst y;exact e
  ·exact S.trans _ _ _ (h i (j-1) ∅ ∅) e
def aCd.more(S:qN n lt)(h:aCd lt p k)(hk:1<=k)(e:lt (vAt p k) (vAt p (k-1))=true):aCd lt p (k+1):=λi j hi hj=>by
 by_cases z:j<k
 ·exact h i j hi z
 ·obtain rfl:j=k:=by lia
  by_cases y:i=j-1
  ·subst y;exact e
  ·exact S.trans _ _ _ e (h i (j-1) ∅ ∅)
theorem aDp(S:qN n lt)(hn:0<n)(T:nC n p):∀(f k:Nat),1<=k->k+f=n->nZ lt p k->(kas_asc p f k).Way lt (·<n) λm=>nZ lt p m/\k<=m/\m<=n/\(m=n∨lt (vAt p m) (vAt p (m-1))=true)
 |0,k,h1,h2,h3=>#[h3,Ak _,∅,.inl ∅]
 |f+1,k,h1,h2,h3=>by
  refine#[T.low hn k,T.low hn (k-1),?_];show KasT.Way lt (·<n) (if lt (vAt p k) (vAt p (k-1))=true then _ else _) _;by_cases c:lt (vAt p k) (vAt p (k-1))=true
  ·rw[Ab1 c];exact#[h3,Ak _,∅,.inr c]
  ·rw[Ab0 c];have c':=(S.tot _ _ (T.low hn k) (T.low hn (k-1)) (T.inj ∅ ∅ ∅)).resolve_left c;exact KasT.way_mono (λm z=>#[z.1,∅,z.2.2]) _ (aDp S hn T f (k+1) ∅ ∅ (h3.more S h1 c'))
theorem aFz(S:qN n lt)(hn:0<n)(T:nC n p):∀(f k:Nat),1<=k->k+f=n->aCd lt p k->(kas_desc f p k 0).Way lt (·<n) λr=>r.1=p/\r.2.2=0/\aCd lt p r.2.1/\k<=r.2.1/\r.2.1<=n
 |0,k,h1,h2,h3=>#[rfl,rfl,h3,Ak _,by show k<=n;lia]
 |f+1,k,h1,h2,h3=>by
  refine#[T.low hn k,T.low hn (k-1),?_];show KasT.Way lt (·<n) (if lt (vAt p k) (vAt p (k-1))=true then _ else _) _;by_cases c:lt (vAt p k) (vAt p (k-1))=true
  ·rw[Ab1 c,Ab0 ∅];exact KasT.way_mono (λm z=>#[z.1,z.2.1,z.2.2.1,∅,z.2.2.2.2]) _ (aFz S hn T f (k+1) ∅ ∅ (h3.more S h1 c))
  ·rw[Ab0 c];refine#[T.low hn (k-1),T.low hn k,?_];have c':=(S.tot _ _ (T.low hn k) (T.low hn (k-1)) (T.inj ∅ ∅ ∅)).resolve_left c;show KasT.Way lt (·<n) (if lt (vAt p (k-1)) (vAt p k)=true then _ else _) _;rw[Ab1 c'];exact#[rfl,rfl,h3,Ak _,by show k<=n;lia]
def aQ9(hm:m<=p.size)(i:Nat):vAt (kas_rev p 0 m) i=if i<m then vAt p (m-1-i)else vAt p i:=by
 rw[lE,kas_rev,getElem?_mirror_all hm];by_cases h:i<m
 ·rw[Ab1 #[Bp _,h],Ab1 h,lE,Kf]
 ·rw[Ab0 (λz=>h z.2),Ab0 h,lE]
def aLy(S:qN n lt)(hn:0<n)(T:nC n p):(kas_count n p).Way lt (·<n) λr=>nC n r.2/\nZ lt r.2 r.1/\1<=r.1/\r.1<=n:=by
 refine KasT.way_bind _ (KasT.way_mono (λm z=>?_) _ (aDp S hn T (n-1) 1 (Ak _) ∅ λi j h1 h2=>by lia));obtain⟨z1,z2,z3,z4⟩:=z;by_cases e:m=n
 ·rw[Ab1 (beq_iff_eq.mpr e)];exact#[T,z1,z2,z3]
 ·rw[Ab0 (λy=>e (beq_iff_eq.mp y))];have z4:=z4.resolve_left e;by_cases g:m>1
  ·rw[Ab1 g];refine#[T.low hn 0,T.low hn (m-1),?_];have c:lt (p.getD 0 0) (p.getD (m-1) 0)=true:=z1 0 (m-1) ∅ ∅;rw[c];dsimp only;rw[Ab1 rfl];exact#[T,z1,z2,z3]
  ·rw[Ab0 g];obtain rfl:m=1:=by lia
   refine KasT.way_bind _ (KasT.way_mono (λr y=>?_) _ (aFz S hn T (n-(1+1)) (1+1) ∅ ∅ λi j h1 h2=>?_))
   ·obtain⟨q,k,w⟩:=r;obtain⟨y1,y2,y3,y4,y5⟩:=y;have y1:q=p:=y1;have y2:w=0:=y2;subst y1 y2;show KasT.Way lt (·<n) (if 0>0 then _ else _) _;rw[Ab0 ∅];have y3:aCd lt q k:=y3;have y4:2<=k:=y4;have y5:k<=n:=y5;have T':nC n (kas_rev q 0 k):=T.perm (mirror_perm ..);have hs:k<=q.size:=by rw[T.size];exact y5
    refine KasT.way_bind _ (KasT.way_mono (λm' x=>?_) _ (aDp S hn T' (n-k) k ∅ ∅ λi j h1 h2=>?_))
    ·exact#[T',x.1,by have:=x.2.1;show 1<=m';lia,x.2.2.1]
    ·rw[aQ9 hs,aQ9 hs,Ab1 ∅,Ab1 h2];exact y3 _ _ ∅ ∅
   ·obtain rfl:i=0:=by lia
    obtain rfl:j=1:=by lia
    exact z4
theorem xT(S:qN n lt)(hn:0<n)(T:nC n p)(hk:k<n)(R:nZ lt p k):∀(f l r:Nat),l<=r->r<=k->r-l<=f->(∀i,i<l->lt (vAt p i) (vAt p k)=true)->(∀i,r<=i->i<k->lt (vAt p k) (vAt p i)=true)->
  (kas_place p k f l r).Way lt (·<n) λm=>m<=k/\(∀i,i<m->lt (vAt p i) (vAt p k)=true)/\∀i,m<=i->i<k->lt (vAt p k) (vAt p i)=true
 |0,l,r,h1,h2,h3,a,b=>by
  obtain rfl:l=r:=by lia
  exact#[h2,a,b]
 |f+1,l,r,h1,h2,h3,a,b=>by
  show KasT.Way lt (·<n) (if l≥r then _ else _) _;by_cases e:l≥r
  ·rw[Ab1 e];obtain rfl:l=r:=by lia
   exact#[h2,a,b]
  ·rw[Ab0 e];refine#[T.low hn k,T.low hn _,?_];show KasT.Way lt (·<n) (if lt (vAt p k) (vAt p ((l+r) / 2))=true then _ else _) _;by_cases c:lt (vAt p k) (vAt p ((l+r) / 2))=true
   ·rw[Ab1 c];refine xT S hn T hk R f l _ ∅ ∅ ∅ a λi g1 g2=>?_;by_cases y:i=(l+r) / 2
    ·subst y;exact c
    ·exact S.trans _ _ _ c (R _ i ∅ g2)
   ·rw[Ab0 c];have c':=(S.tot _ _ (T.low hn k) (T.low hn ((l+r) / 2)) (T.inj hk ∅ ∅)).resolve_left c;refine xT S hn T hk R f _ r ∅ h2 ∅ (λi g=>?_) b;by_cases y:i=(l+r) / 2
    ·subst y;exact c'
    ·exact S.trans _ _ _ (R i _ ∅ ∅) c'
def aN4(hk:k<p.size)(hl:l<=k)(i:Nat):vAt (bubble p k (k-l)) i=if i=l then vAt p k else if l<i/\i<=k then vAt p (i-1)else vAt p i:=by
 rw[lE,getElem?_bubble hk _ ∅,show k-(k-l)=l by lia];split
 ·rw[lE]
 ·split<;>rw[lE]
theorem aKf (S : qN n lt) (hn : 0 < n) : ∀ (f : Nat) (p : Array Nat) (k : Nat), nC n p → k + f = n → nZ lt p k → (kas_bin f p k).Way lt (· < n) fun q => nC n q ∧ nZ lt q n
  | 0, p, k, T, h, R => ⟨T, by obtain rfl : k = n := by lia
                               exact R⟩
  | f + 1, p, k, T, h, R => by
    refine KasT.way_bind _ (KasT.way_mono (fun l z => ?_) _ (xT S hn T (k := k) ∅ R k 0 k (Bp _) (Ak _) ∅ (fun i g => by lia) fun i g1 g2 => by lia))
    obtain ⟨z1, z2, z3⟩ := z
    have hs : k < p.size := by rw [T.size]; lia
    refine aKf S hn f _ (k + 1) (T.perm (bubble_perm ..)) ∅ fun i j h1 h2 => ?_
    rw [aN4 hs z1, aN4 hs z1]
    by_cases a1 : i = l
    · subst a1
      rw [Ab1 rfl, Ab0 ∅, Ab1 #[h1, by lia]]
      exact z3 (j - 1) ∅ ∅
    · rw [Ab0 a1]
      by_cases a2 : l < i ∧ i ≤ k
      · rw [Ab1 a2, Ab0 ∅, Ab1 #[∅, by lia]]
        exact R _ _ ∅ ∅
      · rw [Ab0 a2]
        by_cases b1 : j = l
        · rw [Ab1 b1]
          exact z2 i ∅
        · rw [Ab0 b1]
          by_cases b2 : l < j ∧ j ≤ k
          · rw [Ab1 b2]
            by_cases e : i = j - 1
            · lia
            · exact R _ _ ∅ ∅
          · rw [Ab0 b2]
            exact R _ _ h1 ∅
def aRf(S:qN n lt)(hn:0<n):(kas_sort n).Way lt (·<n) λq=>nC n q/\nZ lt q n:=by
 have T:nC n (Aai (Bq n)):=Kx _;refine KasT.way_bind _ (KasT.way_mono (λr z=>?_) _ (aLy S hn T));obtain⟨m,q⟩:=r;obtain⟨z1,z2,z3,z4⟩:=z;have z1:nC n q:=z1;have z2:nZ lt q m:=z2;have z3:1<=m:=z3;have z4:m<=n:=z4;show KasT.Way lt (·<n) (if m<n then kas_bin (n-max m 1) q (max m 1)else _) _;by_cases e:m<n
 ·rw[Ab1 e,show max m 1=m by lia];exact aKf S hn _ _ _ z1 ∅ z2
 ·rw[Ab0 e];obtain rfl:m=n:=by lia
  exact#[z1,z2]
end PySem.W
namespace PySem
variable {Q:#v[5]}{items:Array Value}{P:Nat->Value->Prop}{tk:Nat->Tok}{l:Addr}{fp wr:List Addr}
open Sem (wp)
open PyProof.Rows (listItems_at)
open SeqAt
def bCh(A:Cm)(s:Shared)(y x:Value)(b:Bool):Prop:=
 ∀(prog:An)(w:Bh)(E:#v[5])(Q:#v[5]),Q (.bool b) s->Bb #v[b] A (richCompare .Lt y x) Q E s
def LtN(n:Nat)(s:Shared)(y x:Value)(b:Bool):Prop:=∀A:Cm,A.units<=n->bCh A s y x b
def LtN.ints(n:Nat)(s:Shared)(a b:Int)(t u):LtN n s (.int a t) (.int b u) (decide (a<b)):=λA _ prog w E Q h=>Qq h
variable {s:Shared}{a b:Addr}{xs ys:Array Value}{n:Nat}
def lK:List Int->List Int->Bool
 | [],[]=>false
 | [],_::_=>true
 |_::_,[]=>false
 |x::xs,y::ys=>if x=y then lK xs ys else decide (x<y)
theorem aAz:∀x,lK x x=false
 | []=>rfl
 |x::xs=>by rw[lK,Ab1 rfl];exact aAz xs
theorem aGn:∀x y,x≠y->lK x y=true∨lK y x=true
 | [],[],h=>Ab2 rfl h
 | [],_::_,_=> .inl rfl
 |_::_,[],_=> .inr rfl
 |x::xs,y::ys,h=>by
  unfold lK;by_cases e:x=y
  ·subst e;rw[Ab1 rfl,Ab1 rfl];exact aGn xs ys λz=>h (by rw[z])
  ·rw[Ab0 e,Ab0 (Dc e),Ab7,Ab7]
   lia
theorem uX:∀x y z,lK x y=true->lK y z=true->lK x z=true
 | [],[],_,h,_=>Ab2 h ⋯
 | [],_::_,[],_,h=>Ab2 h (by simp[lK])
 | [],_::_,_::_,_,_=>rfl
 |_::_,[],_,h,_=>Ab2 h (by simp[lK])
 |_::_,_::_,[],_,h=>Ab2 h (by simp[lK])
 |x::xs,y::ys,z::zs,h1,h2=>by
  unfold lK at h1 h2⊢;by_cases e1:x=y
  ·subst e1;rw[Ab1 rfl]at h1;by_cases e2:x=z
   ·subst e2;rw[Ab1 rfl]at h2⊢;exact uX xs ys zs h1 h2
   ·rw[Ab0 e2]at h2⊢;exact h2
  ·rw[Ab0 e1,Ab7]at h1;by_cases e2:y=z
   ·subst e2;rw[Ab0 e1,Ab7];exact h1
   ·rw[Ab0 e2,Ab7]at h2;rw[Ab0 ∅,Ab7]
    lia
def aCx(x y:List Int)(h:lK x y=true):lK y x=false:=by
 cases e:lK y x with
 |false=>rfl
 |true=>
  have:=uX x y x h e;rw[aAz]at this;cases this
variable {prog:An}{w:Bh}
def LtN.tups{a b:Addr}(ha:Kq (Et prog w) s.heap x a)(hb:Kq (Et prog w) s.heap y b)(hn:n+4<cLine):LtN n s (.ref a) (.ref b) (lK x y):=by
 obtain⟨oa,ia,na,hoa,ca,da,ha⟩:=ha;obtain⟨ob,ib,nb,hob,cb,db,hb⟩:=hb;have Ta:s.TypeIs (.ref a) "tuple":=#[oa,hoa,ca];have Tb:s.TypeIs (.ref b) "tuple":=#[ob,hob,cb];intro A hA prog' w' E Q hQ;refine Tc (op:=.Lt) Ta Tb F.slot_tuple_lt (Uv (Xl F.slot_tuple_lt.plain F.entry_tuple_lt (F.slot_tuple_lt.check _ _ _ _ _ _ _ _ Ta (F.args_tuple_lt_2 _ _) ?_))) ∅;show Bb _ _ (Va (.ref b) (.type "tuple")>>=_) _ _ s;refine Aa (Ez Tb Ku ?_)
 ac_rfl
 refine Aa (Kb hoa da ?_);refine Aa (Kb hob db ?_);refine Aa (Gd (Q:=λr s'=>s'=s/\(match r.1 with|some v=>v=.done (.ret (.bool (lK x y)))|none=>lK x y=decide (x.length<y.length))) ?_ (λr s' h=>?_) λ_ _ z=>z)
 ·clear hQ hoa hob da db ca cb Ta Tb;generalize ia.toList=us at ha⊢;generalize ib.toList=vs at hb⊢;induction ha generalizing y vs with
  |nil=>
   rw[List.zip_nil_left,Ke];refine Ac #[rfl,?_];cases hb<;>rfl
  |@cons i u x us h1 t1 ih=>
   cases hb with
   |nil=>
    rw[List.zip_nil_right,Ke];exact Ac #[rfl,rfl]
   |@cons j v y vs h2 t2=>
    obtain⟨tu,rfl⟩:=Gk h1;obtain⟨tv,rfl⟩:=Gk h2;rw[Ou,Ie];refine Aa (Aa (Ry ?_));by_cases ij:i=j
    ·subst ij;rw[Ac0]
     ac_rfl
     refine Ac ?_;dsimp only;have:=ih vs t2;have e1:lK (i::x) (i::y)=lK x y:=by rw[lK,Ab1 rfl]
     have e2:decide ((i::x).length<(i::y).length)=decide (x.length<y.length):=by simp
     rw[e1,e2];exact this
    ·rw[beq_eq_false_iff_ne.mpr ij];have e1:lK (i::x) (j::y)=decide (i<j):=by rw[lK,Ab0 ij]
     rw[e1];simp only[Lm,Ac2];refine Aa (Jj (Aa (LtN.ints (n+3) s i j tu tv A.in1 (by show A.units+1<=n+3;lia) prog' w' _ _ ?_)));exact Aa (Ac (Ac (Ac #[rfl,rfl])))
 ·obtain⟨rfl,h⟩:=h;obtain⟨r,u⟩:=r;cases r with
  |some v=>
   have h:v=_:=h;subst h;exact Ac #[(λz=>nomatch z),hQ]
  |none=>
   have h:lK x y=_:=h;rw[ha.length,hb.length,Az,Az]at h;refine Ac #[(λz=>nomatch z),?_];rw[h]at hQ;exact hQ
section
variable {prog:An}{w:Bh}{K:Type} [DecidableEq K]{knd:Iq prog w K}{A:Cm}
structure Met(val:Nat->K)(adr:Nat->Addr)(i:Nat)(xs:List (K×Addr)):Prop where
 from':∀x∈xs,∃j,j<i/\x=(val j,adr j)
 all:∀j,j<i->∃x∈xs,x.1=val j
 len:xs.length<=i
def pA{n:Nat}
  (D:uI knd) (W:WalksS prog w A.in1 I fp wr G n P St) (S:Addr) (hSf:S∉fp) (hu:knd.room A.in1) (l:Bool)
  (val:Nat->K) (adr:Nat->Addr) (hval:∀i v,P i v->v=.ref (adr i)) (hn:∀i xs,i<n->Met val adr i xs->(xs.map (·.1)).Nodup->xs.length<4) (hnt:∀i s,St i s->∀b∈wr,∀o,s.heap.get? b=some o->o.cls≠.type "tuple"):
  ∀(k i:Nat)(s:Shared)(xs:List (K×Addr)),n-i=k->i<=n->St i s->(∀j,j<n->knd.is s.heap (val j) (adr j))->
   mC knd s S l xs->Met val adr i xs->
   (∀s' xs',Moved (S::wr) G s s'->mC knd s' S l xs'->Met val adr n xs'->(∀b o,o.cls=.type "tuple"->s.heap.get? b=some o->s'.heap.get? b=some o)->R (.ok (.ret .none)) s')->
   Jn #v[b] A (.builtin "set.update.loop" #[[.ref S,.ref I],[]]) R s:=by
 have hSw:S∉wr:=λh=>hSf (W.sub _ h);have hsub:∀b∈wr,b∈S::wr:=λb hb=>Af _ hb;intro k;induction k with
 |zero=>
  intro i s xs hk hi hst hkey hS hm0 hR;have hin:i=n:=by lia
  subst hin;refine Dq Ga ?_;rw[Ci Da _];show Bb _ A.in1 (Gv (.ref I)>>=_) _ _ s;refine Aa (W.done s _ _ hst λs' hm=>?_);have ht:∀b o,o.cls=.type "tuple"->s.heap.get? b=some o->s'.heap.get? b=some o:=λb o hc e=>hm.heap b o (λhb=>hnt _ _ hst b hb o e hc) e;show Bb _ A.in1 (ret Cb) _ _ s';exact Ac (hR s' xs (hm.mono hsub) (hS.at D (λo e=>hm.heap S o hSw e) ht) hm0 ht)
 |succ k ih=>
  intro i s xs hk hi hst hkey hS hm0 hR;have hlt:i<n:=by lia
  refine Dq Ga ?_;rw[Ci Da _];show Bb _ A.in1 (Gv (.ref I)>>=_) _ _ s;refine Aa (W.item i s _ _ hlt hst λv s' hP hst' hm=>?_);obtain rfl:=hval i v hP;have ht:∀b o,o.cls=.type "tuple"->s.heap.get? b=some o->s'.heap.get? b=some o:=λb o hc e=>hm.heap b o (λhb=>hnt _ _ hst b hb o e hc) e;have hS':=hS.at D (λo e=>hm.heap S o hSw e) ht;have hk':∀j,j<n->knd.is s'.heap (val j) (adr j):=λj hj=>D.mono (hkey j hj) ht;show Bb _ A.in1 (holding [As (adr i)] (setAdd S (.ref (adr i)))>>=_) _ _ s';refine Aa (Ce ?_);unfold setAdd;refine Ce ?_;refine Aa (knd.pyHash (k:=val i) hu (hk' i hlt) ?_);have hS2:mC knd {s' with toks:=s'.toks+knd.draws (val i)} S l xs:=hS'.at D (λ_ e=>e) λ_ _ _ e=>e;refine qK D hS2 (hn i xs hlt hm0 (by obtain⟨_,_,_,_,z,_⟩:=hS2;exact z.nd)) hu (hk' i hlt) (λhold=>?_) (λhnew h' xs' hsb pm S3=>?_)
  ·refine Ac #[Fc Da _,ih (i+1) _ xs ∅ hlt (W.frame _ s' _ _ hst' (Dh _ _) λb hb o e=>e) hk' hS2 #[λx hx=>?_,λj hj=>?_,by have:=hm0.len;lia] λs'' xs'' hm'' S'' M'' ht''=>?_]
   ·obtain⟨j,h1,h2⟩:=hm0.from' x hx;exact#[j,∅,h2]
   ·by_cases e:j=i
    ·subst e;exact hold
    ·exact hm0.all j ∅
   ·exact hR s'' xs'' (Qj W.gtrans ((hm.mono hsub).then_heap (Dh _ _) λb o hb e=>e) hm'') S'' M'' λb o hc e=>ht'' b o hc (ht b o hc e)
  ·have hSt:∀b o,o.cls=.type "tuple"->s'.heap.get? b=some o->h'.get? b=some o:=λb o hc e=>by
    have ne:b≠S:=by
     rintro rfl;obtain⟨o2,_,_,_,z,_⟩:=hS';rw[z.ho]at e;cases e;rw[z.hex.1]at hc;exact Ab2 hc ⋯
    rw[hsb.2 b ne];exact e
   refine Ac #[Fc Da _,ih (i+1) _ xs' ∅ hlt (W.frame _ s' _ _ hst' (Dh _ _) λb hb o e=>?_) (λj hj=>D.mono (hk' j hj) hSt) S3 #[λx hx=>?_,λj hj=>?_,by have:=hm0.len;rw[pm.length_eq,Ao];lia] λs'' xs'' hm'' S'' M'' ht''=>?_]
   ·rw[hsb.2 b (λh:b=S=>hSf (by rw[<-h];exact hb))];exact e
   ·rcases Ax.mp (pm.mem_iff.mp hx)with e|m
    ·exact#[i,∅,e]
    ·obtain⟨j,h1,h2⟩:=hm0.from' x m;exact#[j,∅,h2]
   ·by_cases e:j=i
    ·subst e;exact#[_,pm.mem_iff.mpr Ah,rfl]
    ·obtain⟨x,hx,ex⟩:=hm0.all j ∅;exact#[x,pm.mem_iff.mpr (Af _ hx),ex]
   ·refine hR s'' xs'' (Qj W.gtrans ((hm.mono hsub).then_heap (Dh _ _) λb o hb e=>?_) hm'') S'' M'' λb o hc e=>ht'' b o hc (hSt b o hc (ht b o hc e));rw[hsb.2 b (λh:b=S=>hb (by rw[h];exact Ah))];exact e
end
variable {A:Cm}{E:#v[5]}
def aBx(a:Value)
  (h:Q₁ (.ref #v[0]) {s with heap:=s.heap.push {cls:=.type "set",dict:=none,data:=.set (List.toArray []) 0 (.fresh 0 0 (!w.params.followText "set-order"))}}):
  Jn #v[b] A (.call (.builtin "set.__new__") #[[.type "set",a],[]]) (wants Q₁ E) s:=by
 refine Abo ?_;show Bb _ A.in1 (do checkBuiltinCall "set.__new__" #[[.type "set",a],[]];again (.builtin "set.__new__" #[[.type "set",a],[]])) _ _ s;refine Aa (Nd (F.newCall_set_1 a) (Ac #[Fc Aaq _,Dq F.entry_set_new ?_]));rw[Ci Aaq _];unfold Builtin.«set.__new__» Xj;have hsub:=sub_set_self;obtain⟨hp,g,d,tk,os⟩:=s;dsimp only
 wp_walk
 refine Le (Ac ?_);dsimp only;simp only[newObj];refine Aa (wpAny_alloc (Ac ?_));exact Ac h
section
variable {prog:An}{w:Bh}{K:Type} [DecidableEq K]{knd:Iq prog w K}{A:Cm}{E:#v[5]}{s:Shared}
def mC.fresh(s:Shared){a:Addr}(l:Bool)(h:s.heap.get? a=some {cls:=.type "set",dict:=none,data:=.set (List.toArray []) 0 (.fresh 0 0 l)}):mC knd s a l []:=
 #[_, (List.toArray []),0,_,#[h,#[rfl,rfl,rfl],rfl,rfl,#[rfl,λi k h1 h2=>Ab2 h2 (Eu _),λj hj=>(nomatch hj),Bp _,SetTable.aYd],rfl,λx hx=>(nomatch hx),Ht,λi j x h1 h2=>(nomatch h2)],#[rfl,Bp _],rfl,rfl]
def aWm(prog:An)(w:Bh)(n:Nat)(P:Nat->Value->Prop)(u:Nat)(s:Shared)(S:Addr)(led:Bool)(Z:Shared->Prop):Prop:=
 ∀{A:Cm}{R:Qe->Shared->Prop}{I:Addr}{fp wr:List Addr}{G:Array Mh->Array Mh->Prop}{St:Nat->Shared->Prop}(s1:Shared),WalksS prog w A.in1 I fp wr G n P St->S∉fp->A.in1.units<=u+8->
  (∀i s,St i s->∀b∈wr,∀o,s.heap.get? b=some o->o.cls≠.type "tuple")->St 0 s1->(∀b o,s.heap.get? b=some o->s1.heap.get? b=some o)->s1.heap.get? S=some {cls:=.type "set",dict:=none,data:=.set (List.toArray []) 0 (.fresh 0 0 led)}->
  (∀s',Moved (S::wr) G s1 s'->Z s'->R (.ok (.ret .none)) s')->Jn #v[b] A (.builtin "set.update.loop" #[[.ref S,.ref I],[]]) R s1
def vP(Z:Shared->Prop)(hh:A.handled=none)(hl:s.heap.IsList l items)
  (L:aWm prog w items.size (λi v=>items[i]? =some v) A.units s #v[0] (!w.params.followText "set-order") Z)
  (h:∀(h':Heap)(tk:Nat),Z {s with heap:=h',toks:=tk}->(∀b o,b<#v[0]->s.heap.get? b=some o->h'.get? b=some o)->Q (.ref #v[0]) {s with heap:=h',toks:=tk}):
  Bb #v[b] A (call (.type "set") [.ref l]) Q E s:=by
 obtain⟨c,tl,hmro⟩:=F.called_set.mro;have hmade:=F.called_set.made;have hsub:=F.called_set.sub;refine Uv (Abo ?_);show Bb _ _ (callAny (.type "set") _) _ _ _;refine Ac #[Code.quiet_builtin _ #v[4],Dq F.entry_type_call ?_];rw[Around.under_plain (weight_type_call_type "set" [.ref l] []) rfl];have h1:=F.called_set.notType;have h2:=F.called_set.canCreate;have hct:=F.typeCall_set_1 (.ref l)
 repeat (any_goals (first|assumption|wp_step))
 generalize hled:(!w.params.followText "set-order")=led at L;refine Mf (aBx (.ref l) (E:=E) (Q₁:=λobj s₁=>obj=.ref #v[0]/\s₁={s with heap:=s.heap.push {cls:=.type "set",dict:=none,data:=.set (List.toArray []) 0 (.fresh 0 0 led)}}) #[rfl,by rw[hled]]) λr s₁ hr=>?_;cases r with
 |error e=>exact hr
 |ok fl=>
  cases fl with
  |ret obj=>
   obtain⟨rfl,rfl⟩:=hr;have hS:#v[e].get? #v[0]=some {cls:=.type "set",dict:=none,data:=.set (List.toArray []) 0 (.fresh 0 0 led)}:=Au _ rfl;have hT:Lx {s with heap:=s.heap.push {cls:=.type "set",dict:=none,data:=.set (List.toArray []) 0 (.fresh 0 0 led)}} (.ref #v[0]) "set":=#[_,hS,rfl];have hli:=F.called_set.init.lookup;have hbi:=F.called_set.init.bind (.ref #v[0])
   repeat (any_goals (first|assumption|wp_step))
   refine Mf (Xl (R:=wants (λr s₂=>r=.none/\∃h' tk,s₂={s with heap:=h',toks:=tk}/\Z {s with heap:=h',toks:=tk}/\
     (∀b o,b<#v[0]->s.heap.get? b=some o->h'.get? b=some o)) E) F.called_set.init.plain F.entry_set_init (check_set_init_1 hT ?_)) λr₂ s₂ hr₂=>?_
   ·obtain⟨ol,hol,hcl,nl,hdl⟩:=hl;obtain⟨ocls,odict,odata,oslots⟩:=ol;simp only at hcl hdl;subst hcl;subst hdl;have hol':#v[e].get? l=some {cls:=.type "list",dict:=odict,data:=.seq items nl,slots:=oslots}:=Ae _ hol;have hsls:=F.sub_list_set;have hslf:=F.sub_list_frozenset;have hne:(Hr "list"==Hr "dict")=false:=by decide
    have hl1:#v[e].IsList l items:=#[_,hol',rfl,nl,rfl];unfold Builtin.«set.__init__» noKeywords Xg;generalize hPI:Uy=PI
    wp_walk
    subst hPI;refine Kn hl1 ?_;refine Aa (wpAny_runValue ?_);have hlS:l<#v[0]:=Aw hol;have hh3:A.in1.in1.in1.handled=none:=by simp[hh]
    have hneI:l≠#v[e].objs.size:=by
     rw[Df];exact Bc (Iy hlS)
    have hSf:#v[0]∉[#v[e].objs.size,l]:=by
     rw[Df];simp only[Ax,Ap,Cq,or_false,not_or];exact#[Bc (Gy _),Gm hlS]
    have keep2:∀b o,s.heap.get? b=some o->(#v[e].push {cls:=.type "list_iterator",data:=.fields (List.toArray [.ref l,.int 0 0])}).get? b=some o:=λb o e=>Ae _ (Ae _ e);refine L _ ((Rp hh3 _ l hneI items).toS) hSf (by simp[Around.in1]) ?hnt #[#[_,Au _ rfl,rfl,rfl],(hl1.push _)] keep2 (Ae _ hS) ?hR
    case hnt=>
     rintro i s2 ⟨⟨o2,g1,g2,_⟩,_⟩ b hb o e hc;have hb:=Ap.mp hb;subst hb;rw[g1]at e;cases e;rw[g2]at hc;exact Ab2 hc ⋯
    case hR=>
     intro s' hm hS';obtain⟨h',g',d',tk',os'⟩:=s';have eg:g'=s.gens:=hm.gens;have ed:d'=s.drawn:=hm.drawn;have eo:os'=s.os:=hm.os;subst eg;subst ed;subst eo;show Bb _ _ _ _ _ _;refine Ac ?_;show Bb _ _ (ret Cb) _ _ _;refine Ac #[rfl,h',tk',rfl,hS',λb o hb e=>?_];have hb1:b≠#v[0]:=Bc hb;have hb2:b≠#v[e].objs.size:=by
      rw[Df];exact Bc (Iy hb)
     exact hm.heap b o (by simp only[Ax,Ap,Cq,or_false,not_or];exact#[hb1,hb2]) (keep2 b o e)
   ·cases r₂ with
    |error e=>exact hr₂
    |ok fl₂=>
     cases fl₂ with
     |ret r=>
      obtain⟨rfl,h',tk,rfl,hS',hk'⟩:=hr₂
      repeat (any_goals (first|assumption|wp_step))
      exact h _ _ hS' hk'
     |_=>exact hr₂.elim
  |_=>exact hr.elim
def aAo(D:uI knd)(hu:∀A':Cm,A'.units<=A.units+8->knd.room A')
  (hh:A.handled=none) (hl:s.heap.IsList l items) (hi:∀(i:Nat)(v:Value),items[i]? =some v->v=As (adr i)) (hk:∀j,j<items.size->knd.is s.heap (val j) (adr j)) (hb:∀i xs,i<items.size->Met val adr i xs->(xs.map (·.1)).Nodup->xs.length<4)
  (h:∀(h':Heap)(tk:Nat)(xs:List (K×Addr)),mC knd {s with heap:=h',toks:=tk} #v[0] (!w.params.followText "set-order") xs->Met val adr items.size xs->
   (∀b o,b<#v[0]->s.heap.get? b=some o->h'.get? b=some o)->Q (.ref #v[0]) {s with heap:=h',toks:=tk}):
  Bb #v[b] A (call (.type "set") [.ref l]) Q E s:=
 vP (λs'=>∃xs,mC knd s' #v[0] (!w.params.followText "set-order") xs/\Met val adr items.size xs) hh hl
  (λs1 W hSf hA hnt st kp hS hR=>pA D W #v[0] hSf (hu _ hA) _ val adr hi hb hnt (items.size-0) 0 s1 [] ∅ (Bp _) st (λj hj=>D.mono (hk j hj) λb o _ e=>kp b o e) (mC.fresh _ _ hS) #[λx hx=>(nomatch hx),λj hj=>Ab2 hj (Eu _),Bp _] λs' xs' hm S M _=>hR s' hm #[xs',S,M])
  λh' tk ⟨xs,S,M⟩ kp=>h h' tk xs S M kp
end
open PyProof.Rows PySem.W
structure aAi{prog:An}{w:Bh}{α:Type} [DecidableEq α](knd:Iq prog w α)(ok:α->Prop)(lt:α->α->Bool):Prop where
 set:uI knd
 tot:∀x y,x≠y->lt x y=true∨lt y x=true
 asym:∀x y,lt x y=true->lt y x=false
 trans:∀x y z,lt x y=true->lt y z=true->lt x z=true
 first:∀{h:Heap}{k:α}{a:Addr},ok k->knd.is h k a->∃o items n i tk,h.get? a=some o/\o.cls=.type "tuple"/\o.data=.seq items n/\items[0]? =some (Ey i tk)
 cmp:∀{A:Cm}{E:#v[5]}{b:Bool}{s:Shared}{x y:α}{p q:Addr}{Q:Bool->Shared->Prop},A.units+10<cLine->knd.is s.heap x p->knd.is s.heap y q->Q (lt x y) s->Bb #v[b] A (keyLt' (tuples' b) (.ref p) (.ref q)) Q E s
section
variable {prog:An}{w:Bh}{A:Cm}{E:#v[5]}{s:Shared}{α:Type} [DecidableEq α] [Inhabited α]{knd:Iq prog w α}{ok:α->Prop}{lt:α->α->Bool}
def wZ(knd:Iq prog w α)(ok:α->Prop)(h:Heap)(xs:List (α×Addr)):Prop:=∀x∈xs,ok x.1/\knd.is h x.1 x.2
def wZ.mono(O:aAi knd ok lt){xs:List (α×Addr)}(T:wZ knd ok h xs)(hs:∀b o,o.cls=.type "tuple"->h.get? b=some o->h'.get? b=some o):wZ knd ok h' xs:=λx hx=>#[(T x hx).1,O.set.mono (T x hx).2 hs]
def wZ.kat(O:aAi knd ok lt):∀{xs:List (α×Addr)},wZ knd ok h xs->∃fs:List Value,fs.length=xs.length/\(∀v∈fs,∃i tk,v=Ey i tk)/\KatTups h (xs.map λx=>As x.2) fs
 | [],_=>#[[],rfl,λv hv=>(nomatch hv),KatTups.nil]
 |x::xs,T=>by
  obtain⟨fs,f1,f2,f3⟩:=wZ.kat O (xs:=xs) λy hy=>T y (Af _ hy);obtain⟨o,items,n,i,tk,ho,hc,hd,hf⟩:=O.first (T x Ah).1 (T x Ah).2;refine#[.int i tk::fs,by rw[Ao,Ao,f1],λv hv=>?_,KatTups.cons ho hc hd hf f3];rcases Ax.mp hv with rfl|hv
  ·exact#[_,_,rfl]
  ·exact f2 v hv
def aC5{α:Type}{xs:List α}{p:List Nat}(hp:p.Perm (Bq xs.length)):(p.filterMap λi:Nat=>xs[i]?).Perm xs:=by
 have:=hp.filterMap λi:Nat=>xs[i]?;rw[zG]at this;exact this
def aVl(prog:An)(w:Bh)(A:Cm)(E:#v[5])(lt:α->α->Bool)(xs:List (α×Addr))(s:Shared):Prop:=∀b,Bb #v[b] A ((sortRuns').run (SortSt.mk' (tuples' b) ((xs.map λx=>As x.2).toArray.zip (xs.map λx=>As x.2).toArray) (List.toArray []) 7 none)) (λr s'=>s'=s/\∃p:Array Nat,p.size=xs.length/\arrOf r.2=p.map (kas_item ((xs.map λx=>As x.2).toArray.zip (xs.map λx=>As x.2).toArray))/\failedOf r.2=none/\nC xs.length p/\nZ (λi j=>lt (xs.getD i (default,0)).1 (xs.getD j (default,0)).1) p xs.length) E s
def aUd(O:aAi knd ok lt)(hu:A.units+20<cLine){xs:List (α×Addr)}(T:wZ knd ok s.heap xs){b:Bool}(hi:i<xs.length)(hj:j<xs.length)(hC:C (lt (xs.getD i (default,0)).1 (xs.getD j (default,0)).1) s):kas_ask prog w A (tuples' b) (xs.map λx=>As x.2) i j C s:=by
 have keyd:∀i,i<xs.length->xs[i]? =some (xs.getD i (default,0))/\(xs.map λx=>As x.2).getD i Cb=.ref (xs.getD i (default,0)).2:=λi hi=>by simp[Ma,hi]
 obtain⟨a1,a2⟩:=keyd i hi;obtain⟨b1,b2⟩:=keyd j hj;show Bb _ _ (keyLt' _ ((xs.map λx=>As x.2).getD i Cb) ((xs.map λx=>As x.2).getD j Cb)) _ _ _;rw[a2,b2];exact O.cmp ∅ (T _ (Ai a1)).2 (T _ (Ai b1)).2 hC
def aEe(O:aAi knd ok lt){a:Addr}{xs:List (α×Addr)}{n:Nat}{P:Fin->Shared->Prop}(ho:s.heap.get? a=some (Ki "list" (xs.map λx=>As x.2).toArray n))
  (T:wZ knd ok s.heap xs) (hz:xs.length<=10000) (run:∀s1:Shared,wZ knd ok s1.heap xs->2<=xs.length->aVl prog w A E lt xs s1)
  (h:∀ys:List (α×Addr),ys.Perm xs->ys.Pairwise (λx y=>lt x.1 y.1=true)->P (.done (.ret .none)) {s with heap:=Uw s.heap a (xs.map λx=>As x.2) (ys.map λx=>As x.2).toArray}):
  Bb #v[b] A (Builtin.«list.sort» #[[.ref a],[]]) P E s:=by
 rw[list_sort_plain];have ha:a<#v[0]:=Aw ho;generalize hvs:(xs.map λx=>As x.2)=vs at ho h;have vl:vs.length=xs.length:=by rw[<-hvs,Ab]
 refine Aa (listItems_at ho rfl ?_);refine Aa (Vt ho rfl ?_ (by rw[Al,Es];lia) (Bp _));obtain⟨e1,ho1⟩:∃e1,(s.heap.update a (Ea λ_=> (List.toArray []))).get? a=some (Ki "list" (List.toArray []) e1):=#[_,get?_update_seq ho (λ_=> (List.toArray []))];refine Aa (Xy ho1 rfl ?_);refine Aa (Ud ?_ (by show vs.length<=_;rw[Es];lia));refine Aa (Vm ?_ (Bp _));refine Ce ?_;have kp:∀b o,b≠a->s.heap.get? b=some o->(((s.heap.update a (Ea λ_=> (List.toArray []))).push (Ki "tuple" vs.toArray 0)).push (Ki "list" (List.toArray []) 0)).get? b=some o:=λb o hb e=>
  Ae _ (Ae _ ((Cp _ _ (Dc hb)).trans e))
 have ho6:(((s.heap.update a (Ea λ_=> (List.toArray []))).push (Ki "tuple" vs.toArray 0)).push (Ki "list" (List.toArray []) 0)).get? a=some (Ki "list" (List.toArray []) e1):=Ae _ (Ae _ ho1);show Bb #v[b] A _ P E {s with heap:=((s.heap.update a (Ea λ_=> (List.toArray []))).push (Ki "tuple" vs.toArray 0)).push (Ki "list" (List.toArray []) 0)};dsimp only;generalize hH:((s.heap.update a (Ea λ_=> (List.toArray []))).push (Ki "tuple" vs.toArray 0)).push (Ki "list" (List.toArray []) 0)=H at ho6 kp;have T6:wZ knd ok H xs:=T.mono O λb o hc e=>kp b o (λz=>by subst z;rw[ho]at e;cases e;exact Ab2 (show Hr "list"=Hr "tuple" from hc) ⋯) e;have fin:∀out:Array Value,Uw s.heap a vs out=H.update a (Ea λ_=>out):=λout=>by rw[<-hH];rfl
 by_cases h2:vs.toArray.size<2
 ·rw[Ab1 h2,Ab1 h2];refine Aa (Ac ?_);rw[StateT.run_pure];refine Aa (Ac ?_);dsimp only;refine Aa (Xy ho6 rfl ?_);have ev:(pairsOf vs).map (·.2)=vs.toArray:=by
   apply Wq.mp;rw[Array.toList_map,pairsOf_toList];exact List.map_snd_zip (Ak _)
  have hz:((pairsOf vs).map (·.2)).size<=sizeLine+1:=by rw[ev,Al,Es];lia
  refine Aa (Vt ho6 rfl ?_ (Bp _) hz);simp only[bne_self_eq_false,Dg,Ac1];refine Ac ?_;have q:=h xs (Kx _) (by
   rw[Al,vl]at h2;match xs,h2 with
   | [],_=>exact .nil
   | [x],_=>exact Mg _ _)
  rw[fin,hvs]at q;have q':P (.done (.ret .none)) {s with heap:=H.update a (Ea λ_=>(pairsOf vs).map (·.2))}:=by rw[ev];exact q
  exact q'
 ·rw[Ab0 h2,Ab0 h2];rw[Al]at h2;obtain⟨fs,f1,f2,f3⟩:=wZ.kat O T6;rw[hvs]at f3;refine Aa (kat_kind (T:=Hr "int") f3 ∅ (λv hv=>?_) rfl ?_)
  ·obtain⟨i,tk,rfl⟩:=f2 v hv;exact Looks.of_pure rfl
  ·have keyd:∀i,i<xs.length->xs[i]? =some (xs.getD i (default,0))/\vs.getD i Cb=.ref (xs.getD i (default,0)).2:=λi hi=>by
    rw[<-hvs];simp[Ma,hi]
   have rn:=run {s with heap:=H} T6 ∅;unfold aVl at rn;rw[hvs]at rn;refine Aa (Gd (rn _) ?_ λ_ _ e=>e);rintro⟨⟨⟩,st'⟩ s' ⟨rfl,p,hp,har,hf,hT,hR⟩;dsimp only;have hout:=kat_snds rfl har;have pm:p.toList.Perm (Bq xs.length):=hT;have ey:(p.toList.map λi=>vs.getD i Cb)=(p.toList.filterMap λi:Nat=>xs[i]?).map λx=>As x.2:=by
    rw[Vx];have:∀l:List Nat,(∀i∈l,i<xs.length)->(l.map λi=>vs.getD i Cb)=l.filterMap λi:Nat=>(xs[i]?).map λx=>As x.2:=by
     intro l;induction l with
     |nil=>intro _;rfl
     |cons i l ih=>
      intro hl;obtain⟨a1,a2⟩:=keyd i (hl i Ah);rw[Bj,Ld,a1,ih λj hj=>hl j (Af _ hj),a2];rfl
    exact this _ λi hi=>By.mp (pm.mem_iff.mp hi)
   have hsz:(Aai (p.toList.map λi=>vs.getD i Cb)).size<=sizeLine+1:=by rw[Al,Ab,Az,hp,Es];lia
   refine Aa (Xy ho6 rfl ?_);rw[hout];refine Aa (Vt ho6 rfl ?_ (Bp _) hsz);rw[hf];simp only[bne_self_eq_false,Dg,Ac1];refine Ac ?_;have q:=h (p.toList.filterMap λi:Nat=>xs[i]?) (aC5 pm) (by
    rw[Jg];intro i j hi hj hij;have pl:p.toList.length=xs.length:=by rw[pm.length_eq,Dm]
    have fl:=(aC5 pm).length_eq;have gt:∀r,(hr:r<(p.toList.filterMap λi:Nat=>xs[i]?).length)->(p.toList.filterMap λi:Nat=>xs[i]?)[r]=xs.getD (vAt p r) (default,0):=λr hr=>by
     have hr':r<p.toList.length:=by lia
     have e1:=filterMap_get (f:=λi:Nat=>xs[i]?) (l:=p.toList) (λi hi=>#[_,Ag (By.mp (pm.mem_iff.mp hi))]) r;rw[Ag hr,Ag hr']at e1;have e2:vAt p r=p.toList[r]:=by rw[lE, <-De,Ag hr'];rfl
     rw[e2];have lt:p.toList[r]<xs.length:=By.mp (pm.mem_iff.mp (Kj hr'));have e3:(some p.toList[r]).bind (λi:Nat=>xs[i]?)=some (xs.getD p.toList[r] (default,0)):=(keyd _ lt).1;rw[e3]at e1;exact Bs e1
    rw[gt i hi,gt j hj];exact hR i j hij ∅)
   rw[fin, <-ey]at q;exact q
def aA1(O:aAi knd ok lt)(hu:A.units+20<cLine){a:Addr}{xs:List (α×Addr)}{n:Nat}{P:Fin->Shared->Prop}(ho:s.heap.get? a=some (Ki "list" (xs.map λx=>As x.2).toArray n))
  (T:wZ knd ok s.heap xs) (nd:(xs.map (·.1)).Nodup) (h64:xs.length<64)
  (h:∀ys:List (α×Addr),ys.Perm xs->ys.Pairwise (λx y=>lt x.1 y.1=true)->P (.done (.ret .none)) {s with heap:=Uw s.heap a (xs.map λx=>As x.2) (ys.map λx=>As x.2).toArray}):
  Bb #v[b] A (Builtin.«list.sort» #[[.ref a],[]]) P E s:=by
 refine aEe O ho T ∅ (λs1 T1 h2 b=>?_) h;have S:qN xs.length λi j=>lt (xs.getD i (default,0)).1 (xs.getD j (default,0)).1:=by
  refine#[λi j hi hj ne=>O.tot _ _ λz=>ne ?_,λi j=>O.asym _ _,λi j k=>O.trans _ _ _];have li:i<(xs.map (·.1)).length:=by rw[Ab];exact hi
  have lj:j<(xs.map (·.1)).length:=by rw[Ab];exact hj
  refine(Kk (h₀:=li) (h₁:=lj) nd).mp ?_;simpa[Ma,hi,hj]using z
 have wy:=aRf S ∅;have vl:(xs.map λx=>As x.2).length=xs.length:=Ab ..;refine kat_run (Q:=λst' s'=>s'=s1/\∃p:Array Nat,p.size=xs.length/\arrOf st'=p.map (kas_item ((xs.map λx=>As x.2).toArray.zip (xs.map λx=>As x.2).toArray))/\failedOf st'=none/\nC xs.length p/\nZ (λi j=>lt (xs.getD i (default,0)).1 (xs.getD j (default,0)).1) p xs.length) (G:=λp s'=>s'=s1/\nC xs.length p/\nZ (λi j=>lt (xs.getD i (default,0)).1 (xs.getD j (default,0)).1) p xs.length) rfl ∅ ∅ (λp st' s' a1 a2 a3 a4=>#[a4.1,p,a1.trans vl,a2,a3,a4.2]) ?_;rw[vl];exact KasT.way_wp (lt:=λi j=>lt (xs.getD i (default,0)).1 (xs.getD j (default,0)).1) (P:=(·<xs.length)) (λi j C hi hj hC=>aUd O hu T1 hi hj hC) (λp hp=>#[rfl,hp]) _ wy
def aJt(O:aAi knd ok lt)(hu:A.units+30<cLine){xs:List (α×Addr)}(hh:A.handled=none)(I:mC knd s S (!w.params.followText "set-order") xs)(ne:∀x∈xs,ok x.1)(h64:xs.length<64)
  (h:∀(h':Heap)(tk:Nat)(l:Addr)(e:Nat)(ys:List (α×Addr)),ys.Perm xs->ys.Pairwise (λx y=>lt x.1 y.1=true)->#v[0]<=l->h'.get? l=some (Ki "list" (ys.map λx=>As x.2).toArray e)->
   (∀b o,s.heap.get? b=some o->h'.get? b=some o)->Q (.ref l) {s with heap:=h',toks:=tk}):
  Bb #v[b] A (call (.builtin "sorted") [.ref S]) Q E s:=by
 obtain⟨o,es,ep,t,I,sm,pl,ld⟩:=I;refine Rm kind_sorted plain_sorted entry_sorted (args_sorted1 _) ?_;unfold Builtin.«sorted»;refine Aa (m:=checkCount "sorted" 1 1 _) (Ac ?_);have esz:es.size<64:=by rw[I.len];exact h64
 refine Aa (oR (by simpa using hh) I.ho I.hex I.hd I.fits I.good.rise pl ld (by rw[Es];lia) λh1 tk1 s1 k1=>?_);have op:=lN w S es ep;have eo:es.toList.map (·.2)=xs.map λx=>As x.2:=by rw[I.he,Ba];rfl
 rw[eo]at op;obtain⟨zs,pz,ez⟩:∃zs:List (α×Addr),zs.Perm xs/\gZ w S es ep=zs.map λx=>As x.2:=by
  have:∀{l:List Value}{xs:List (α×Addr)},l.Perm (xs.map λx=>As x.2)->∃zs:List (α×Addr),zs.Perm xs/\l=zs.map λx=>As x.2:=λ{l xs} hp=>by
   generalize hm:(xs.map λx=>As x.2)=m at hp;induction hp generalizing xs with
   |nil=>exact#[xs,Kx _,hm.symm]
   |cons a p ih=>
    match xs,hm with
    |x::xs,hm=>
     obtain⟨e1,e2⟩:=Dy hm;obtain⟨zs,z1,z2⟩:=ih e2;exact#[x::zs,z1.cons x,by rw[z2, <-e1];rfl]
   |swap a b l=>
    match xs,hm with
    |x::y::xs,hm=>
     obtain⟨e1,e2⟩:=Dy hm;obtain⟨e2,e3⟩:=Dy e2;exact#[y::x::xs,Vh _ _ _,by rw[<-e1, <-e2, <-e3];rfl]
   |trans p1 p2 ih1 ih2=>
    obtain⟨zs,z1,z2⟩:=ih2 hm;obtain⟨us,u1,u2⟩:=ih1 z2.symm;exact#[us,u1.trans z1,u2]
  exact this op
 rw[ez];have zl:zs.length=xs.length:=pz.length_eq;refine Aa (Vm ?_ (by rw[Ab,Es];lia));have hoL:(h1.push (Ki "list" (zs.map λx=>As x.2).toArray 0)).get? h1.objs.size=some (Ki "list" (zs.map λx=>As x.2).toArray 0):=Au _ rfl;have T1:wZ knd ok (h1.push (Ki "list" (zs.map λx=>As x.2).toArray 0)) zs:=λx hx=>#[ne x (pz.mem_iff.mp hx),O.set.mono (I.keys x (pz.mem_iff.mp hx)) λb o _ e=>Ae _ (k1 b o e)];refine Aa (Ce (Bw slot_list_sort #[_,hoL,rfl] entry_list_sort (aA1 O (by first|lia|(show A.units+1+20<cLine;lia)|(show A.units+2+20<cLine;lia)|(show A.units+3+20<cLine;lia)) hoL T1 (by rw[(pz.map (·.1)).nodup_iff];exact I.nd) ∅ λys py hy=>#[_,rfl,?_]) (args_list_sort _)));refine Ac #[_,rfl,?_];obtain⟨e,he⟩:=sortedHeap_at (out:=(ys.map λx=>As x.2).toArray) hoL;refine h _ tk1 _ e ys (py.trans pz) hy (Gn s1) he λb o q=>?_;have hb:b<h1.objs.size:=Aw (k1 b o q);rw[sortedHeap_old (Bc hb) (by rw[Df];exact Iy hb)];exact Ae _ (k1 b o q)
end
def xM(x y:Int×List Int):Bool:=if x.1=y.1 then lK x.2 y.2 else decide (x.1<y.1)
def aTn(hv:∀k v,(Et prog w).is k v=true->∃i tk,v=Ey i tk):aAi (cX (Et prog w)) (λ_=>True) xM where
 set:=aQi hv
 tot:=λx y ne=>by
  unfold xM;by_cases e:x.1=y.1
  ·rw[Ab1 e,Ab1 e.symm];exact aGn _ _ λz=>ne (Qi e z)
  ·rw[Ab0 e,Ab0 (Dc e),Ab7,Ab7]
   lia
 asym:=λx y h=>by
  unfold xM at h⊢;by_cases e:x.1=y.1
  ·rw[Ab1 e]at h;rw[Ab1 e.symm];exact aCx _ _ h
  ·rw[Ab0 e,Ab7]at h;rw[Ab0 (Dc e),decide_eq_false_iff_not]
   lia
 trans:=λx y z h1 h2=>by
  unfold xM at h1 h2⊢;by_cases e1:x.1=y.1
  ·rw[Ab1 e1]at h1;by_cases e2:y.1=z.1
   ·rw[Ab1 e2]at h2;rw[Ab1 (e1.trans e2)];exact uX _ _ _ h1 h2
   ·rw[Ab0 e2,Ab7]at h2;rw[Ab0 ∅,Ab7]
    lia
  ·rw[Ab0 e1,Ab7]at h1;by_cases e2:y.1=z.1
   ·rw[Ab0 ∅,Ab7]
    lia
   ·rw[Ab0 e2,Ab7]at h2;rw[Ab0 ∅,Ab7]
    lia
 first:=λ_ hk=>by
  obtain⟨o,v,b,n,ho,hc,hd,h1,_⟩:=hk;obtain⟨tk,rfl⟩:=Gk h1;exact#[o,_,n,_,tk,ho,hc,hd,rfl]
 cmp:=λ{A E b s x y p q Q} hu hx hy h=>by
  obtain⟨ox,v,px,nx,h1,h2,h3,h4,h5⟩:=hx;obtain⟨oy,v',py,ny,g1,g2,g3,g4,g5⟩:=hy;obtain⟨tu,rfl⟩:=Gk h4;obtain⟨tv,rfl⟩:=Gk g4;refine kat_lt h1 h3 g1 g3 ?_;show KatLex prog w A b _ Q [(_,_),(_,_)] 0 s;refine kat_cons (Ry ?_);unfold xM at h;by_cases e:x.1=y.1
  ·rw[Ab1 e]at h;rw[beq_iff_eq.mpr e];refine kat_yes (kat_cons ((Pz (Et prog w)).eqBool (show A.units<cLine by lia) h5 g5 ?_));by_cases e2:x.2=y.2
   ·rw[Ab5 e2];refine kat_yes (kat_nil ?_);rw[e2,aAz]at h;exact h
   ·rw[Ab6 e2];refine kat_no ?_;rw[show(b && (0+1==0))=false by cases b<;>rfl];exact kat_one _ _ (LtN.tups (n:=A.units) h5 g5 ∅ A (Ak _) prog w _ _ h)
  ·rw[Ab0 e]at h;rw[beq_eq_false_iff_ne.mpr e];refine kat_no ?_;rw[show(b && (0==0))=b by cases b<;>rfl];cases b with
   |true=>exact oneLt_int h
   |false=>exact kat_one _ _ (Qq (Q:=PySem.W.BoolBack Q) h)
def aB9(l:Bool)(zs:List Nat):SetTable:={mask:=7,place:=zs.toArray,dummies:= (List.toArray []),finger:=0,led:=l,moves:=0,plain:=true}
def lJ(zs:List Nat)(tk:Nat->Tok):Array (Int×Value):=(zs.map λz:Nat=>((z:Int),Ey (z:Int) (tk z))).toArray
def zs1(x:Nat):Bool->List Nat
 |false=>[]
 |true=>[x]
def bCu{l:Bool}{x:Nat}{t:Tok}(hx:x∈[1,2,3]):layNew (aB9 l []) (lJ [] tk) (x:Int) (.int x t)=(lJ [x] (λ_=>t),aB9 l [x],false,false):=by
 simp only[Ax,Cq,or_false]at hx;rcases hx with rfl|rfl|rfl<;>cases l<;>kernel_rfl
variable {x:Nat}
def aH4(s:Shared)(a:Addr)(l:Bool)(x:Nat)(b:Bool):Prop:=∃o ep tk,s.heap.get? a=some o/\o.ExactSet/\o.data=.set (lJ (zs1 x b) tk) ep (aB9 l (zs1 x b))
def aWd(b:Bool)(tk:Nat->Tok):(lJ (zs1 x b) tk).size<=1:=by cases b<;>simp[lJ,zs1]
def aOz{l b:Bool}(hx:x∈[1,2,3]):(aB9 l (zs1 x b)).fits (lJ (zs1 x b) tk).size=true:=by
 simp only[Ax,Cq,or_false]at hx;cases b<;>rcases hx with rfl|rfl|rfl<;>rfl
def aO9(hx:x∈[1,2,3]):(Et prog w).hash (x:Int)=(x:Int):=by
 simp only[Ax,Cq,or_false]at hx;rcases hx with rfl|rfl|rfl<;>rfl
def aWx{b:Bool}(hx:x∈[1,2,3]):ElemsOf (Et prog w) (lJ (zs1 x b) tk).toList:=by
 intro e he;obtain⟨z,hm,rfl⟩:=Aj.mp (show e∈(zs1 x b).map _ from he);obtain rfl:z=x:=by
  cases b
  ·cases hm
  ·exact Ap.mp hm
 exact#[#[(z:Int),Vb _ _ _ _,(aO9 hx).symm],rfl]
def aCb{a:Addr}{l b:Bool}{t:Tok}{Q:Bool->Shared->Prop}(hx:x∈[1,2,3])(S:aH4 s a l x b)(h:∀(b:Bool) h',Eo a s.heap h'->aH4 {s with heap:=h'} a l x true->Q b {s with heap:=h'}):
  Bb #v[b] A (Rn a (.int x t) (x:Int)) Q E s:=by
 obtain⟨o,ep,tk,ho,hex,hd⟩:=S;have hel:=aWx (prog:=prog) (w:=w) (b:=b) (tk:=tk) hx;have hsz:=aWd (x:=x) b tk;unfold Rn setAddHashedIn;refine Ce (Aa (Gr ho hd (aOz hx) ?_));dsimp only;rw[byScan_of (knd:=Et prog w) rfl (by unfold scanBound;lia) hel];simp only[↓reduceIte];unfold setAddByScan;refine Aa ?_;refine Aa (Jj ?_);have hkey:(Et prog w).is (x:Int) (.int x t)=true:=Vb _ _ _ _;have e1:Bb #v[b] A (setScan a (.int x t) (x:Int) true (lJ (zs1 x b) tk)) (λr s'=>s'=s/\r=(match (lJ (zs1 x b) tk).toList.findIdx? (λe=>(Et prog w).is (x:Int) e.2)with|some j=> .found (0+j)|none=> .absent)) E s:=by
  have:=wpAny_setScan_of (knd:=Et prog w) (adding:=true) (A:=A) (E:=E) (Q:=λr s'=>s'=s/\r=(match (lJ (zs1 x b) tk).toList.findIdx? (λe=>(Et prog w).is (x:Int) e.2)with|some j=> .found (0+j)|none=> .absent)) hkey ho hd (aOz hx) hel #[rfl,rfl];rw[aO9 hx]at this;exact this
 refine Aa (Gd e1 (λr s' hr=>?_) λ_ _ z=>z);obtain⟨rfl,rfl⟩:=hr;cases b with
 |true=>
  have e:(lJ (zs1 x true) tk).toList.findIdx? (λe=>(Et prog w).is (x:Int) e.2)=some 0:=by
   show List.findIdx? _ [((x:Int),Ey (x:Int) (tk x))]=some 0;rw[List.findIdx?_cons,Ab1 (Vb _ _ _ _)]
  rw[e];dsimp only;exact Ac (Ac (h false s'.heap (Abb a s'.heap) #[o,ep,tk,ho,hex,hd]))
 |false=>
  have e:(lJ (zs1 x false) tk).toList.findIdx? (λe=>(Et prog w).is (x:Int) e.2)=none:=rfl;rw[e];dsimp only;rw[show layNew (aB9 l (zs1 x false)) (lJ (zs1 x false) tk) (x:Int) (.int x t)=_ from bCu hx];dsimp only;refine Aa (Ac ?_);rw[Ab1 (show(aB9 l [x]).plain=true from rfl)];refine Aa ?_;rw[hashByValue_scannable 8 (show(Ey x t).scannable=true from rfl)];refine Ac ?_;rw[Ab1 (show plainKind (Ey x t)=true from rfl)];refine Aa (Zt ho hd ?_ (by rw[Es];show(1:Nat)<=_;decide));rw[show(!false && (aB9 l [x]).tooFull)=false from rfl]
  ac_rfl
  refine Ac (Ac ?_);have hg:=Bt (Nq (lJ [x] λ_=>t) (aB9 l [x])) ho (by rw[Ti _ _ hd];rfl);rw[Ti _ _ hd]at hg;exact h true _ (Cv s'.heap a (Nq _ _)) #[_,_,λ_=>t,hg,hex,rfl]
def oZ{R:Qe->Shared->Prop}{I:Addr}{G:Array Mh->Array Mh->Prop}{n:Nat}{St:Nat->Shared->Prop}
  (W:WalksS prog w A.in1 I fp wr G n P St) (S:Addr) (hSf:S∉fp) (l:Bool)
  (hval:∀i v,P i v->∃t,v=.int x t) (h3:x∈[1,2,3]):
  ∀(k i:Nat)(s:Shared),n-i=k->i<=n->St i s->aH4 s S l x (decide (0<i))->
   (∀s',Moved (S::wr) G s s'->aH4 s' S l x (decide (0<n))->R (.ok (.ret .none)) s')->
   Jn #v[b] A (.builtin "set.update.loop" #[[.ref S,.ref I],[]]) R s:=by
 have hSw:S∉wr:=λh=>hSf (W.sub _ h);have hsub:∀b∈wr,b∈S::wr:=λb hb=>Af _ hb;intro k;induction k with
 |zero=>
  intro i s hk hi hst hS hR;have hin:i=n:=by lia
  subst hin;refine Dq Ga ?_;rw[Ci Da _];show Bb _ A.in1 (Gv (.ref I)>>=_) _ _ s;refine Aa (W.done s _ _ hst λs' hm=>?_);show Bb _ A.in1 (ret Cb) _ _ s';exact Ac (hR s' (hm.mono hsub) (by
   obtain⟨o,ep,tk,ho,rest⟩:=hS;exact#[o,ep,tk,hm.heap S _ hSw ho,rest]))
 |succ k ih=>
  intro i s hk hi hst hS hR;have hlt:i<n:=by lia
  refine Dq Ga ?_;rw[Ci Da _];show Bb _ A.in1 (Gv (.ref I)>>=_) _ _ s;refine Aa (W.item i s _ _ hlt hst λv s' hP hst' hm=>?_);obtain⟨t,rfl⟩:=hval i v hP;have hS':aH4 {s' with toks:=s'.toks+1} S l x (decide (0<i)):=by
   obtain⟨o,ep,tk,ho,rest⟩:=hS;exact#[o,ep,tk,hm.heap S _ hSw ho,rest]
  show Bb _ A.in1 (holding [Ey x t] (setAdd S (.int x t))>>=_) _ _ s';refine Aa (Ce ?_);unfold setAdd;refine Ce ?_;refine Aa ((Et prog w).pyHash (k:=(x:Int)) (Vb _ _ _ _) ?_);rw[aO9 h3];refine aCb (s:={s' with toks:=s'.toks+1}) h3 hS' λb h' hsb hS2=>?_;refine Ac #[Fc Da _,ih (i+1) _ ∅ hlt (W.frame _ s' _ _ hst' (Hq _) λb hb o e=>?_) (by rw[Ab5 (Um i)];exact hS2) λs'' hm'' hS''=>?_]
  ·rw[hsb.2 b (λh:b=S=>hSf (by rw[<-h];exact hb))];exact e
  ·refine hR s'' (Qj W.gtrans ((hm.mono hsub).then_heap (Hq _) λb o hb e=>?_) hm'') hS'';rw[hsb.2 b (λh:b=S=>hb (by rw[h];exact Ah))];exact e
def aAn(hh:A.handled=none)(hl:s.heap.IsList l items)(hi:∀(i:Nat)(v:Value),items[i]? =some v->∃t,v=.int x t)(h3:x∈[1,2,3])
  (h:∀(h':Heap)(tk:Nat),aH4 {s with heap:=h',toks:=tk} #v[0] (!w.params.followText "set-order") x (decide (0<items.size))->(∀b o,b<#v[0]->s.heap.get? b=some o->h'.get? b=some o)->Q (.ref #v[0]) {s with heap:=h',toks:=tk}):
  Bb #v[b] A (call (.type "set") [.ref l]) Q E s:=
 vP (λs'=>aH4 s' #v[0] (!w.params.followText "set-order") x (decide (0<items.size))) hh hl
  (λs1 W hSf hA hnt st kp hS hR=>oZ W #v[0] hSf _ hi h3 (items.size-0) 0 s1 ∅ (Bp _) st #[_,0,λ_=>0,hS,#[rfl,rfl,rfl],rfl] λs' hm S=>hR s' hm S)
  λh' tk S kp=>h h' tk S kp
def uO(h:Heap)(d:Addr)(es:Array Ky)(ep:Nat):Prop:=∃o,h.get? d=some o/\o.ExactDict/\o.data=.dict es ep
def uO.at_(x:uO h d es ep)(e:∀o,h.get? d=some o->h'.get? d=some o):uO h' d es ep:=let⟨o,ho,r⟩:=x;#[o,e _ ho,r]
def uO.lt(x:uO h d es ep):d<h.objs.size:=let⟨_,ho,_⟩:=x;Aw ho
variable {d it:Addr}{es:Array Ky}{ep i:Nat}
def uO.ty(x:uO s.heap d es ep):s.TypeIs (.ref d) "dict":=let⟨o,ho,c,_⟩:=x;#[o,ho,c.1]
def aQ4(lo:(d==Gs)=false)(x:uO s.heap d es ep)
  (q:Q (.ref #v[0]) {s with heap:=s.heap.push {cls:=.type "dict_keyiterator",data:=.fields (List.toArray [.ref d,.int 0 0,.int es.size 0,.int ep 0])}}):Bb #v[b] A (Uy (.ref d)) Q E s:=by
 obtain⟨o,ho,c,dd⟩:=id x;refine Km x.ty Zk (Bw Zk x.ty F.entry_dict_iter ?_ (F.args_dict_iter_1 _));unfold Builtin.«dict.__iter__» Ox;refine Aa (Aa (Jd x.ty (Ac ?_)));show Bb _ _ (Jq d>>=_) _ _ s;unfold Jq;rw[Ab0 (by rw[lo];exact Ar)];refine Aa (Ac (Aa (Em ho dd (Aa (Je ho dd ?_)))));refine Aa (Cd (Ac #[_,rfl,"dict_keyiterator",_,#[_,Au _ rfl,rfl],F.slot_dict_keyiterator_next.lookup,?_]));simpa[Ka]using q
def aQ3{Q:#v[10]->Shared->Prop}(y:s.heap.IsKeyIter it d i es.size ep)(x:uO s.heap d es ep)(hi:i<es.size)
  (q:∀g,g.IsKeyIter it d (i+1) es.size ep->Eo it s.heap g->Q (some es[i].key) {s with heap:=g}):Bb #v[b] A (Gv (.ref it)) Q E s:=by
 obtain⟨o,ho,hc,hd⟩:=id y
 obtain⟨od,h1,_,h2⟩:=x
 have own:Fy "dict_keyiterator"=false:=by decide
 unfold Gv
 refine Aa (Hw (Cw (name:=Eh "__next__") y.typeIs Ih (Bw Ih y.typeIs Rk ?_ (Qt _))))
 refine Aa (Ac (Aa (Aa ?_)))
 first|refine Aa (Hz y.typeIs (Ac ?_))|refine Aa (Jy y.typeIs (Ac ?_))
 refine Aa (Mi ho hd ?_)
 simp only[own,Dg,Ac1]
 show Bb _ _ (if(As d==Cb)=true then _ else _) _ _ s
 rw[Ab0 (show¬((As d==Cb)=true)from Ar)]
 refine Aa (Ac (Aa (Em h1 h2 ?_)))
 rw[Ab0 (by simp)]
 refine Aa (Ac (Aa (Je h1 h2 ?_)))
 rw[Ab0 (by simp)]
 refine Ac ?_
 simp only[show¬((i:Int)<0)from by lia,Ac1,Ck,Bz hi]
 refine Aa ?_
 first|refine Aa (Hz y.typeIs (Ac ?_))|refine Aa (Jy y.typeIs (Ac ?_))
 refine Aa (Ws y.typeIs ?_)
 show Bb _ _ (Yl (.ref it) 1 (Ka ((i:Int)+1))>>=_) _ _ s
 refine Aa (Hk ho hd (by simp) ?_)
 have y':(s.heap.update it (Kv (·.setIfInBounds 1 (Ka ((i:Int)+1))))).IsKeyIter it d (i+1) es.size ep:=
  #[_,Bt _ ho (Ij (Ep hd _)),(Kc ..).trans hc,by rw[Ep hd];simp[Ka]]
 refine Aa (Ce (Aa (Ws (s:={s with heap:=s.heap.update it (Kv (·.setIfInBounds 1 (Ka ((i:Int)+1))))}) y'.typeIs ?_)))
 show Bb _ _ (pure es[i].key) _ _ _
 exact Ac (Ac #[_,rfl,Ac (q _ y' (Cv ..))])
def aT8{Q:#v[10]->Shared->Prop}(hh:A.handled=none)(y:s.heap.IsKeyIter it d es.size es.size ep)(x:uO s.heap d es ep)(q:∀g,Qs it s.heap g->Q none {s with heap:=g}):Bb #v[b] A (Gv (.ref it)) Q E s:=by
 obtain⟨o,ho,hc,hd⟩:=id y
 obtain⟨od,h1,_,h2⟩:=x
 have own:Fy "dict_keyiterator"=false:=by decide
 unfold Gv
 refine Aa (Hw (Cw (name:=Eh "__next__") y.typeIs Ih (Bw Ih y.typeIs Rk ?_ (Qt _))))
 refine Aa (Ac (Aa (Aa ?_)))
 first|refine Aa (Hz y.typeIs (Ac ?_))|refine Aa (Jy y.typeIs (Ac ?_))
 refine Aa (Mi ho hd ?_)
 simp only[own,Dg,Ac1]
 show Bb _ _ (if(As d==Cb)=true then _ else _) _ _ s
 rw[Ab0 (show¬((As d==Cb)=true)from Ar)]
 refine Aa (Ac (Aa (Em h1 h2 ?_)))
 rw[Ab0 (by simp)]
 refine Aa (Ac (Aa (Je h1 h2 ?_)))
 rw[Ab0 (by simp)]
 refine Ac ?_
 simp only[show¬((es.size:Int)<0)from by lia,Ac1,Ck,Mq (Ak _)]
 refine Aa ?_
 first|refine Aa (Hz y.typeIs (Ac ?_))|refine Aa (Jy y.typeIs (Ac ?_))
 show Bb _ _ (Yl (.ref it) 0 .none>>=_) _ _ s
 refine Aa (Hk ho hd (by simp) ?_)
 show Bb _ _ (Uz (.type "StopIteration") []>>=_) _ _ _
 simp only[Uz,Yn]
 refine Aa (Aa (Cd ?_ (by size_fits)))
 refine Aa (m:=Ia _ _) (Nd (a:=Cb) (by first|rfl|(simp only[Ia];rfl)) ?_)
 refine Cd ?_ (by size_fits)
 simp only[Ym]
 refine Aa (Px ?_)
 rw[show A.in1.handled=none from hh]
 refine Aa (Ac (Sz ?_))
 refine Aa (Ez (T:="StopIteration") (b:=true) #[_,Au _ rfl,rfl] Mj ?_)
 exact Ac (q _ (((Cv ..).extBut.push _).push _))
def aM5(hh:A.handled=none)(I d:Addr)(ne:d≠I)(es:Array Ky)(ep:Nat):Walks prog w A I [I,d] [I] es.size (λi v=>∃e,es[i]? =some e/\v=e.key) (λi h=>h.IsKeyIter I d i es.size ep/\uO h d es ep) where
 sub:=λb hb=>by simp at hb;simp[hb]
 frame:=λ_ _ _ st hk=>#[st.1.at λo e=>hk I (by simp) o e,st.2.at_ λo e=>hk d (by simp) o e]
 item:=λi s Q E hi st hQ=>aQ3 st.1 st.2 hi λg y' sb=>hQ _ g s.toks #[_,Bz hi,rfl] #[y',st.2.at_ λo e=>sb.extBut d o ne e] λb o hb e=>sb.extBut b o (λh=>hb (by simp[h])) e
 done:=λs Q E st hQ=>aT8 hh st.1 st.2 λg he=>hQ g s.toks λb o hb e=>he b o (λh=>hb (by simp[h])) e
 self:=λ_ _ _ _ st hQ=>wpAny_pyIter_keyiter st.1 hQ
def aT9(lo:(d==Gs)=false):PySem.W.KdlSrc prog w "dict" d d es.size (λi v=>∃e,es[i]? =some e/\v=e.key) (λh=>uO h d es ep) where
 type:=λ_ hm=>hm.ty
 there:=λ_ hm=>#[hm.lt,hm.lt]
 keep:=λ_ _ hm hk=>hm.at_ λo e=>hk d (.inl rfl) o e
 notList:=by decide
 notTuple:=by decide
 hint:=λ_ _ _ _ hm hq=>PySem.W.kdl_hint_dict hm.ty hq
 iter:=λ_ _ hh hm=>#[_,_,(λ_ _ hq=>aQ4 lo hm hq),aM5 hh _ d (Bc hm.lt) es ep,#[#[_,Au _ rfl,rfl,rfl],hm.at_ λ_ e=>Ae _ e]]
variable {d it r:Addr}
def aM7(hv:s.heap.IsValuesView r d)(x:uO s.heap d es ep)
  (q:Q (.ref #v[0]) {s with heap:=s.heap.push {cls:=.type "dict_valueiterator",data:=.fields (List.toArray [.ref d,.int 0 0,.int es.size 0,.int ep 0])}}):Bb #v[b] A (Uy (.ref r)) Q E s:=by
 obtain⟨o,ho,c,dd⟩:=id x;obtain⟨ov,h1,h2,h3⟩:=id hv;refine Km hv.typeIs Ut (Bw Ut hv.typeIs F.entry_dict_values_iter ?_ (F.args_dict_values_iter_1 _));unfold Builtin.«dict_values.__iter__»;refine Aa (Ac (Aa ?_));unfold Wo;refine Aa (Du h1 h3 (x:=.ref d) rfl (Ac (Aa ?_)));unfold Wn;refine Aa (Em ho dd (Aa (Je ho dd ?_)));simp only[show Fy "dict_valueiterator"=false by decide,Dg,Ac1];refine Cd (Ac #[_,rfl,"dict_valueiterator",_,#[_,Au _ rfl,rfl],F.slot_dict_valueiterator_next.lookup,?_]);simpa[Ka]using q
def aM6{Q:#v[10]->Shared->Prop}(y:s.heap.IsValIter it d i es.size ep)(x:uO s.heap d es ep)(hi:i<es.size)
  (q:∀g,g.IsValIter it d (i+1) es.size ep->Eo it s.heap g->Q (some es[i].val) {s with heap:=g}):Bb #v[b] A (Gv (.ref it)) Q E s:=by
 obtain⟨o,ho,hc,hd⟩:=id y
 obtain⟨od,h1,_,h2⟩:=x
 have own:Fy "dict_valueiterator"=false:=by decide
 unfold Gv
 refine Aa (Hw (Cw (name:=Eh "__next__") y.typeIs Hs (Bw Hs y.typeIs Qk ?_ (Pw _))))
 refine Aa (Ac (Aa (Aa ?_)))
 first|refine Aa (Hy y.typeIs (Ac ?_))|refine Aa (Jx y.typeIs (Ac ?_))
 refine Aa (Mi ho hd ?_)
 simp only[own,Dg,Ac1]
 show Bb _ _ (if(As d==Cb)=true then _ else _) _ _ s
 rw[Ab0 (show¬((As d==Cb)=true)from Ar)]
 refine Aa (Ac (Aa (Em h1 h2 ?_)))
 rw[Ab0 (by simp)]
 refine Aa (Ac (Aa (Je h1 h2 ?_)))
 rw[Ab0 (by simp)]
 refine Ac ?_
 simp only[show¬((i:Int)<0)from by lia,Ac1,Ck,Bz hi]
 refine Aa ?_
 first|refine Aa (Hy y.typeIs (Ac ?_))|refine Aa (Jx y.typeIs (Ac ?_))
 refine Aa (Od y.typeIs ?_)
 show Bb _ _ (Yl (.ref it) 1 (Ka ((i:Int)+1))>>=_) _ _ s
 refine Aa (Hk ho hd (by simp) ?_)
 have y':(s.heap.update it (Kv (·.setIfInBounds 1 (Ka ((i:Int)+1))))).IsValIter it d (i+1) es.size ep:=
  #[_,Bt _ ho (Ij (Ep hd _)),(Kc ..).trans hc,by rw[Ep hd];simp[Ka]]
 refine Aa (Ce (Aa (Od (s:={s with heap:=s.heap.update it (Kv (·.setIfInBounds 1 (Ka ((i:Int)+1))))}) y'.typeIs ?_)))
 rw[Ab0 #v[4]]
 refine Aa (Od (s:={s with heap:=s.heap.update it (Kv (·.setIfInBounds 1 (Ka ((i:Int)+1))))}) y'.typeIs ?_)
 show Bb _ _ (pure es[i].val) _ _ _
 exact Ac (Ac #[_,rfl,Ac (q _ y' (Cv ..))])
def aQ6{Q:#v[10]->Shared->Prop}(hh:A.handled=none)(y:s.heap.IsValIter it d es.size es.size ep)(x:uO s.heap d es ep)(q:∀g,Qs it s.heap g->Q none {s with heap:=g}):Bb #v[b] A (Gv (.ref it)) Q E s:=by
 obtain⟨o,ho,hc,hd⟩:=id y
 obtain⟨od,h1,_,h2⟩:=x
 have own:Fy "dict_valueiterator"=false:=by decide
 unfold Gv
 refine Aa (Hw (Cw (name:=Eh "__next__") y.typeIs Hs (Bw Hs y.typeIs Qk ?_ (Pw _))))
 refine Aa (Ac (Aa (Aa ?_)))
 first|refine Aa (Hy y.typeIs (Ac ?_))|refine Aa (Jx y.typeIs (Ac ?_))
 refine Aa (Mi ho hd ?_)
 simp only[own,Dg,Ac1]
 show Bb _ _ (if(As d==Cb)=true then _ else _) _ _ s
 rw[Ab0 (show¬((As d==Cb)=true)from Ar)]
 refine Aa (Ac (Aa (Em h1 h2 ?_)))
 rw[Ab0 (by simp)]
 refine Aa (Ac (Aa (Je h1 h2 ?_)))
 rw[Ab0 (by simp)]
 refine Ac ?_
 simp only[show¬((es.size:Int)<0)from by lia,Ac1,Ck,Mq (Ak _)]
 refine Aa ?_
 first|refine Aa (Hy y.typeIs (Ac ?_))|refine Aa (Jx y.typeIs (Ac ?_))
 show Bb _ _ (Yl (.ref it) 0 .none>>=_) _ _ s
 refine Aa (Hk ho hd (by simp) ?_)
 show Bb _ _ (Uz (.type "StopIteration") []>>=_) _ _ _
 simp only[Uz,Yn]
 refine Aa (Aa (Cd ?_ (by size_fits)))
 refine Aa (m:=Ia _ _) (Nd (a:=Cb) (by first|rfl|(simp only[Ia];rfl)) ?_)
 refine Cd ?_ (by size_fits)
 simp only[Ym]
 refine Aa (Px ?_)
 rw[show A.in1.handled=none from hh]
 refine Aa (Ac (Sz ?_))
 refine Aa (Ez (T:="StopIteration") (b:=true) #[_,Au _ rfl,rfl] Mj ?_)
 exact Ac (q _ (((Cv ..).extBut.push _).push _))
def uW{prog:An}{w:Bh}{A:Cm}{E:#v[5]}{s:Shared}{a:Addr}{xs:Array Value}{Q:#v[10]->Shared->Prop}
  (hx:s.heap.get? a=some o) (hc:o.cls=.type "list") (hdat:o.data=.seq xs k) (hd:o.dict=none) (hmiss:On (.type "list") name=pure none) (hname:(["__module__","__name__","__qualname__","__doc__","__annotations__"]:List Str).contains name=false) (hA:A.handled=none)
  (h:∀h' tk e,Heap.NewExcOf s.heap h' e "AttributeError"->Q none {s with heap:=h',toks:=tk}) (hsz:name.length+100<=sizeLine:=by size_fits):
  Bb #v[b] A (getAttr? (.ref a) name) Q E s:=by
 obtain⟨c,dct,dat,sl⟩:=o;simp only at hc hdat hd;subst hc hdat hd;obtain⟨hp,g,d,tk,os⟩:=s;have hT:∀tk',(#[hp,g,d,tk',os]:Shared).TypeIs (.ref a) "list":=λ_=>#[_,hx,rfl];have f1:=sub_AttributeError;have f3:=F.slot_list_getattribute.lookup;have f4:=F.slot_list_getattribute.bind (.ref a);have f5:=am_list_getattr_none;unfold getAttr? getAttrBy? getAttrBy
 repeat (any_goals (first|assumption|exact hT _|((with_reducible show Bb _ _ (call (Yb "list.__getattribute__") _ _) _ _ _);refine Oq F.slot_list_getattribute (hT _) am_entry_list_getattribute (F.args_list_getattribute_2 _ _) (meets_getattribute_miss_list a xs k sl name _ hmiss hname hsz) #[hx,hA,λh' tk' e hx'=>?_])|wp_step))
 obtain⟨t',u',he⟩:=hx'.there;show Bb _ _ (Yp _ _ _ _ _ _ _) _ _ _;unfold Yp
 repeat (any_goals (first|assumption|wp_step))
 exact h _ _ _ hx'.of
namespace F
def jD:Yq table "dict.update.loop"=some Builtin.«dict.update.loop»:=Aax (by kernel_rfl)
def dH:plainId "dict.update.loop"=true:=by decide+kernel
def aA4:On (.type "list") "keys"=pure none:=by rw[Lr,Jf];kernel_rfl
end F
section
variable {prog:An}{w:Bh}{K:Type} [DecidableEq K]{knd:Iq prog w K}
def aHh(xs:List (K×Addr×Value))(k:K)(a:Addr)(v:Value):(Of xs k a v).length<=xs.length+1:=by
 unfold Of;split
 ·rw[Ab];lia
 ·rw[Am];exact Ak _
def aHi{xs:List (K×Addr×Value)}{k:K}{a:Addr}{v:Value}{x:K×Addr×Value}(h:x∈Of xs k a v):(∃y∈xs,x.1=y.1/\x.2.1=y.2.1)∨(x.1=k/\x.2.1=a):=by
 unfold Of at h;split at h
 ·obtain⟨y,hy,rfl⟩:=Aj.mp h;refine .inl #[y,hy,?_];unfold putAt;split<;>exact#[rfl,rfl]
 ·rcases Bd.mp h with h|h
  ·exact .inl #[x,h,rfl,rfl]
  ·simp only[Ap]at h;subst h;exact .inr #[rfl,rfl]
def qG(L:List (K×Addr×Value)):List (K×Addr×Value):=L.foldl (λxs x=>Of xs x.1 x.2.1 x.2.2) []
def rG(L:List (K×Addr×Value))(x:K×Addr×Value):qG (L++[x])=Of (qG L) x.1 x.2.1 x.2.2:=by unfold qG;rw[Wi];rfl
theorem aC7:∀(n:Nat)(L:List (K×Addr×Value)),L.length=n->(qG L).length<=n
 |0,L,h=>by rw[Dp.mp h];exact Ak _
 |n+1,L,h=>by
  obtain⟨M,x,rfl⟩:∃M x,L=M++[x]:=#[L.dropLast,L.getLast (by intro z;rw[z]at h;cases h),(Kr _).symm];rw[Am,Dw]at h;rw[rG];have:=aC7 n M ∅;have:=aHh (qG M) x.1 x.2.1 x.2.2
  lia
theorem aHe{h:Heap}:∀(n:Nat)(L:List (K×Addr×Value)),L.length=n->(∀x∈L,knd.is h x.1 x.2.1)->∀x∈qG L,knd.is h x.1 x.2.1
 |0,L,e,_,x,hx=>by rw[Dp.mp e]at hx;exact nomatch hx
 |n+1,L,e,hL,x,hx=>by
  obtain⟨M,y,rfl⟩:∃M x,L=M++[x]:=#[L.dropLast,L.getLast (by intro z;rw[z]at e;cases e),(Kr _).symm];rw[Am,Dw]at e;rw[rG]at hx;rcases aHi hx with ⟨z,hz,e1,e2⟩|⟨e1,e2⟩
  ·rw[e1,e2];exact aHe n M ∅ (λu hu=>hL u (Bo _ hu)) z hz
  ·rw[e1,e2];exact hL y (Be _ (Ap.mpr rfl))
def Heap.DObj(h:Heap)(knd:Iq prog w K)(d:Addr)(xs:List (K×Addr×Value)):Prop:=∃o es ep,h.get? d=some o/\o.ExactDict/\o.data=.dict es ep/\es.toList=xs.map (Oo knd)/\(xs.map (·.1)).Nodup
def Heap.TwoAt(h:Heap)(p:Addr)(x y:Value):Prop:=∃o n,h.get? p=some o/\o.cls=.type "tuple"/\o.data=.seq (List.toArray [x,y]) n
variable {A:Cm}{R:Qe->Shared->Prop}{I:Addr}{fp wr:List Addr}{G:Array Mh->Array Mh->Prop}{n:Nat}{P:Nat->Value->Prop}{St:Nat->Shared->Prop}
def nY(W:WalksS prog w A.in1 I fp wr G n P St)(d:Addr)(hSf:d∉fp)(hd₀:h₀.get? d=none)(hw₀:∀b∈wr,h₀.get? b=none)(hro:knd.room A.in1)
  (mono:∀h' x a,knd.is h₀ x a->(∀b o,h₀.get? b=some o->h'.get? b=some o)->knd.is h' x a)
  (L:List (K×Addr×Value)) (hL:L.length=n) (hn:n<=sizeLine) (hk:∀x∈L,knd.is h₀ x.1 x.2.1) (hv:∀i v,P i v->∃x p,L[i]? =some x/\v=.ref p/\h₀.TwoAt p (.ref x.2.1) x.2.2):
  ∀(k i:Nat)(s:Shared)(ti:Tok),n-i=k->i<=n->St i s->(∀b o,h₀.get? b=some o->s.heap.get? b=some o)->s.heap.DObj knd d (qG (L.take i))->
   (∀s',Moved (d::wr) G s s'->s'.heap.DObj knd d (qG L)->R (.ok (.ret .none)) s')->
   Jn #v[b] A (.builtin "dict.update.loop" #[[.ref d,.ref I,.int (i:Int) ti,.none],[]]) R s:=by
 have hdw:d∉wr:=λh=>hSf (W.sub _ h);have hsub:∀b∈wr,b∈d::wr:=λb hb=>Af _ hb;intro k;induction k with
 |zero=>
  intro i s ti hki hi hst hold hS hR;have hin:i=n:=by lia
  subst hin;refine Dq F.jD ?_;rw[Ci F.dH _];show Bb _ A.in1 (Gv (.ref I)>>=_) _ _ s;refine Aa (W.done s _ _ hst λs' hm=>?_);show Bb _ A.in1 (Abk d []>>=λ_=>ret Cb) _ _ s';refine Aa (Ac (Ac (hR s' (hm.mono hsub) ?_)));obtain⟨o,es,ep,ho,rest⟩:=hS;rw[Fx (Up hL)]at rest;exact#[o,es,ep,hm.heap d _ hdw ho,rest]
 |succ k ih=>
  intro i s ti hki hi hst hold hS hR;have hlt:i<n:=by lia
  refine Dq F.jD ?_;rw[Ci F.dH _];show Bb _ A.in1 (Gv (.ref I)>>=_) _ _ s;refine Aa (W.item i s _ _ hlt hst λv s' hP hst' hm=>?_);obtain⟨x,p,hx,rfl,ot,m,hot,hct,hdt⟩:=hv i v hP;have hold':∀b o,h₀.get? b=some o->s'.heap.get? b=some o:=λb o e=>hm.heap b o (λz=>by rw[hw₀ b z]at e;cases e) (hold b o e);have hot':=hold' _ _ hot;have hT:s'.TypeIs (.ref p) "tuple":=#[ot,hot',hct];have mx:x∈L:=Ai hx;show Bb _ A.in1 (holding [As p] _>>=_) _ _ s';refine Aa (Ce ?_);refine Aa (Pe ?_);unfold Abg;refine Aa (Jb hT ?_);rw[Ab1 ⋯];refine Aa (Di hot' hdt (Ac ?_));show Bb _ A.in1 (holding [As x.2.1,x.2.2] (dictSet d (.ref x.2.1) x.2.2)) _ _ s';refine Ce ?_;have hi':(L.take i).length=i:=by rw[Gg];lia
  have hS':s'.heap.DictOfH knd d (qG (L.take i)):=by
   obtain⟨o,es,ep,ho,h1,h2,h3,h4⟩:=hS;refine#[o,es,ep,hm.heap d _ hdw ho,h1,h2,h3,λy hy=>mono _ _ _ ?_ hold',h4];exact aHe i (L.take i) hi' (λu hu=>hk u (Iz hu)) y hy
  have ls:=aC7 i (L.take i) hi';refine wpAny_dictSet_heap (hsz:=by lia) hro (mono _ _ _ (hk x mx) hold') hS' λh' hd' hsb=>?_;have et:qG (L.take (i+1))=Of (qG (L.take i)) x.1 x.2.1 x.2.2:=by
   rw[Nx,hx];exact rG _ _
  have nd:∀b o,h₀.get? b=some o->b≠d:=λb o e z=>by rw[z,hd₀]at e;cases e
  refine Ac #[Fc F.dH _,ih (i+1) _ _ ∅ hlt (W.frame _ s' _ _ hst' (Dh _ _) λb hb o e=>?_) (λb o e=>(hsb.2 b (nd b o e)).trans (hold' b o e)) ?_ λs'' hm'' hS''=>?_]
  ·rw[hsb.2 b (λh:b=d=>hSf (by rw[<-h];exact hb))];exact e
  ·rw[et];obtain⟨o,es,ep,h1,h2,h3,h4,_,h5⟩:=hd';exact#[o,es,ep,h1,h2,h3,h4,h5]
  ·refine hR s'' (Qj W.gtrans ((hm.mono hsub).then_heap (Dh _ _) λb o hb e=>?_) hm'') hS'';rw[hsb.2 b (λh:b=d=>hb (by rw[h];exact Ah))];exact e
end
section
variable {prog:An}{w:Bh}{K:Type} [DecidableEq K]{knd:Iq prog w K}{A:Cm}{E:#v[5]}{s:Shared}
def zE(hh:A.handled=none)(hl:s.heap.get? l=some {cls:=.type "list",data:=.seq items k})(hro:knd.room A.in1.in1)
  (mono:∀h' x a,knd.is s.heap x a->(∀b o,s.heap.get? b=some o->h'.get? b=some o)->knd.is h' x a)
  (L:List (K×Addr×Value)) (hL:L.length=items.size) (hn:items.size<=sizeLine) (hk:∀x∈L,knd.is s.heap x.1 x.2.1) (hv:∀(i:Nat)(v:Value),items[i]? =some v->∃x p,L[i]? =some x/\v=.ref p/\s.heap.TwoAt p (.ref x.2.1) x.2.2)
  (h:∀h' tk,h'.DObj knd #v[0] (qG L)->(∀b o,s.heap.get? b=some o->h'.get? b=some o)->Q (.ref #v[0]) {s with heap:=h',toks:=tk}):
  Bb #v[b] A (call (.type "dict") [.ref l]) Q E s:=by
 refine Uh (Q₁:=λobj s₁=>obj=.ref #v[0]/\s₁={s with heap:=s.heap.push #v[7]}) Zl (Wm _) Yj (Aaw _ #[rfl,rfl]) ?_;rintro obj s₁ ⟨rfl,rfl⟩;have hnew:(s.heap.push #v[7]).DictOfH knd #v[0] []:=Sk s.heap;have hl':(s.heap.push #v[7]).get? l=some {cls:=.type "list",data:=.seq items k}:=Ae _ hl;have hT:Lx {s with heap:=s.heap.push #v[7]} (.ref l) "list":=#[_,hl',rfl];refine#[hnew.typeIs,Xu _ _,?_];unfold Builtin.«dict.__init__»;refine Aa ?_;unfold Pd;refine Aa (Jd hnew.typeIs ?_);show Bb _ _ (pure (#v[0],[As l])) _ _ _;refine Ac ?_;show Bb _ _ (Ja "dict.__init__" #v[0] (.ref l) [] .none) _ _ _;unfold Ja;refine Aa (Jb hT ?_);rw[Ab1 ⋯];refine Aa (uW hl' rfl rfl rfl F.aA4 ⋯ hh λh1 tk e hx=>?_);have k1:∀b o,(s.heap.push #v[7]).get? b=some o->h1.get? b=some o:=hx.keeps;simp only[Option.isNone_none,Ac2];refine Aa (Jj ?_);have hl1:h1.IsList l items:=#[_,k1 _ _ hl',rfl,k,rfl];refine Aa (Kn hl1 ?_);have hld:l<#v[0]:=Aw hl;have hd1:h1.get? #v[0]=some #v[7]:=k1 _ _ (Au _ rfl);have hds:#v[0]<h1.objs.size:=Aw hd1;have hls:l<h1.objs.size:=Nk hld hds;refine Aa (Ac (Ac #[Fc F.dH _,?_]));have hh3:A.in1.in1.handled=none:=by simp[hh]
 have hneI:l≠h1.objs.size:=Bc hls;have hSf:#v[0]∉[h1.objs.size,l]:=by
  simp only[Ax,Cq,or_false,not_or];exact#[Bc hds,Gm hld]
 refine nY (knd:=knd) (h₀:=s.heap) ((Rp hh3 _ l hneI items).toS) #v[0] hSf (Nt (Ak _)) (λb hb=>?_) hro mono L hL hn hk hv (items.size-0) 0 _ _ rfl (Bp _)
  #[#[_,Au _ rfl,rfl,rfl],(hl1.push _)] (λb o e=>Ae _ (k1 _ _ (Ae _ e))) ?_ λs' hm hS'=>?_
 ·rw[Ap.mp hb];exact Nt (Gn hds)
 ·exact#[_, (List.toArray []),0,Ae _ hd1,#[rfl,rfl,rfl],rfl,rfl,Ht]
 ·obtain⟨h',g',d',tk',os'⟩:=s';have eg:g'=s.gens:=hm.gens;have ed:d'=s.drawn:=hm.drawn;have eo:os'=s.os:=hm.os;subst eg;subst ed;subst eo;refine#[rfl,h h' tk' hS' λb o e=>?_];have hb:b<#v[0]:=Aw e;exact hm.heap b o (by simp only[Ax,Cq,or_false,not_or];exact#[Bc hb,Bc (Nk hb hds)]) (Ae _ (k1 _ _ (Ae _ e)))
end
def yE(x:Int×List Int):Int:=Ux (Dv [hashInt x.1,Ux (Dv (x.2.map hashInt))])
def aL7(M:Nat):List Int->Nat->Bool
 | [],_=>true
 |h::t,b=>bif Yf (Nat.land (Zc b (Pb h M).toNat) 1) 0 then aL7 M t (Nat.lor b (Nat.shiftLeft 1 (Pb h M).toNat))else false
theorem zN:∀{l:List Int}{b:Nat},aL7 M l b=true->l.Nodup/\∀h∈l,b.testBit (h % (M:Int)).toNat=false
 | [],_,_=>#[Ht,nofun]
 |h::t,b,e=>by
  unfold aL7 at e;cases hb:Yf (Nat.land (Zc b (Pb h M).toNat) 1) 0 with
  |false=>rw[hb]at e;cases e
  |true=>
   rw[hb]at e;obtain⟨h1,h2⟩:=zN e;have tb:b.testBit (h % (M:Int)).toNat=false:=by
    have:=Nat.eq_of_beq_eq_true hb;unfold Nat.testBit;rw[Nat.and_comm,show(b>>>(h % (M:Int)).toNat) &&& 1=0 from this];rfl
   have or_:∀x∈t,b.testBit (x % (M:Int)).toNat=false/\(x % (M:Int)).toNat≠(h % (M:Int)).toNat:=λx hx=>by
    have:=h2 x hx;have e:(b |||1<<<(h % (M:Int)).toNat).testBit (x % (M:Int)).toNat=false:=this;rw[Nat.testBit_or,Bool.or_eq_false_iff,Nat.one_shiftLeft,Nat.testBit_two_pow]at e;exact#[e.1,λz=>Ab4 e.2 z.symm]
   refine#[Dx.mpr #[λz=>(or_ h z).2 rfl,h1],λx hx=>?_];rcases Ax.mp hx with z|z
   ·rw[z];exact tb
   ·exact(or_ x z).1
def dig:List Int:=[0,1,2,3,4,5,6,7,8]
def plc:Nat->List (List Int)
 |0=>[[]]
 |n+1=>(plc n).flatMap λp=>dig.map λa=>a::p
def plP(p:List Int):Int:=p.foldl (λa x=>a*(x+1)) 1
def hsK(n:Nat):List (Int×List Int):=[1,2,3,4,5,6,7,8,9,10,11,12].flatMap λr=>((plc n).filter λp=>decide (plP p<=40)).map λp=>(r,p)
def hs1:aL7 640 ((hsK 1).map yE) 0=true:=by decide+kernel
def hs2:aL7 21952 ((hsK 2).map yE) 0=true:=by decide+kernel
def hsG(Ms:List Nat)(L:List Int):Bool:=Ms.zipIdx.all λx=>aL7 x.1 (L.filter λh=>Yf (Pb h 8).toNat x.2) 0
def hs3:hsG [7569,6969,7875,8027,7169,6399,5115,6853] ((hsK 3).map yE)=true:=by decide+kernel
def aW2(hl:Ms.length=8)(h:hsG Ms L=true):L.Nodup:=by
 refine Jg.mpr λi j hi hj ij e=>?_;have hg:(Pb L[i] 8).toNat<Ms.length:=by
  have h1:=Rh L[i] (show(8:Int)≠0 by decide);have h2:=Pa L[i] (show(0:Int)<8 by decide);show(L[i] % 8).toNat<_
  lia
 have:=List.all_eq_true.mp h (Ms[(Pb L[i] 8).toNat],(Pb L[i] 8).toNat) (by
  rw[List.mem_iff_getElem];exact#[_,by rw[List.length_zipIdx];exact hg,by rw[List.getElem_zipIdx];simp])
 have sf:∀n:Nat,Yf n n=true:=Nat.beq_refl;exact Jg.mp (List.pairwise_filter.mp (zN this).1) i j hi hj ij (sf _) (by rw[<-e];exact sf _) e
theorem aK5:∀{n:Nat}{p:List Int},p.length=n->(∀x∈p,0<=x/\x<=8)->p∈plc n
 |0,[],_,_=>Ap.mpr rfl
 |n+1,a::p,hl,h=>by
  refine Fq.mpr #[p,aK5 (Kw hl) λx hx=>h x (Af _ hx),Aj.mpr #[a,?_,rfl]];obtain⟨h1,h2⟩:=h a Ah;obtain⟨k,rfl⟩:∃k:Nat,a=k:=#[a.toNat,∅];have:k<=8:=by lia
  match k,this with
  |0,_|1,_|2,_|3,_|4,_|5,_|6,_|7,_|8,_=>decide
theorem aCy{α β:Type}{f:α->β}:∀{l:List α}{x y:α},(l.map f).Nodup->x∈l->y∈l->f x=f y->x=y
 |a::l,x,y,h,hx,hy,e=>by
  rw[Bj,Dx]at h;rcases Ax.mp hx with e1|e1<;>rcases Ax.mp hy with e2|e2
  ·rw[e1,e2]
  ·exact Ab2 (Aj.mpr #[y,e2,by rw[<-e,e1]]) h.1
  ·exact Ab2 (Aj.mpr #[x,e1,by rw[e,e2]]) h.1
  ·exact aCy h.2 e1 e2 e
def aYh{P:An}{w:Bh}{x y:Int×List Int}{n:Nat}(h1:1<=n)(h3:n<=3)(hx:1<=x.1/\x.1<=12/\x.2.length=n/\(∀a∈x.2,0<=a/\a<=8)/\plP x.2<=40)(hy:1<=y.1/\y.1<=12/\y.2.length=n/\(∀a∈y.2,0<=a/\a<=8)/\plP y.2<=40)(e:(cX (Et P w)).hash x=(cX (Et P w)).hash y):x=y:=by
 have e:yE x=yE y:=e;have has:∀z:Int×List Int,(1<=z.1/\z.1<=12/\z.2.length=n/\(∀a∈z.2,0<=a/\a<=8)/\plP z.2<=40)->z∈hsK n:=λz ⟨a,b,c,d,e⟩=>by
  refine Fq.mpr #[z.1,?_,Aj.mpr #[z.2,Gq.mpr #[aK5 c d,Ab5 e],rfl]];obtain⟨k,hk⟩:∃k:Nat,z.1=k:=#[z.1.toNat,∅];rw[hk]at a b⊢;have:1<=k/\k<=12:=by lia
  match k,this with
  |1,_|2,_|3,_|4,_|5,_|6,_|7,_|8,_|9,_|10,_|11,_|12,_=>decide
 have nd:((hsK n).map yE).Nodup:=by
  match n,h1,h3 with
  |1,_,_=>exact(zN hs1).1
  |2,_,_=>exact(zN hs2).1
  |3,_,_=>exact aW2 rfl hs3
 exact aCy nd (has x hx) (has y hy) e
end PySem
namespace L2
variable {pos:Pos}{scope:Scope}{cl:List (Str×Addr)}{i:Nat}{xs ys:Array Value}{g:TG}{k:Nat}{p:Addr}{wi:TI}{Q:#v[10]->Shared->Prop}{v:V}{E:#v[5]}{N l1 l2:Nat}{ps:List Str}{vs:List V}{a:Addr}{tc:TT}{te:TE}{kvs:List (Key×V)}{fp:List Addr}{t:TE}{r:List V->Hp->VK->Prop}{y:V}{h h':Heap}{C:Addr}{icap:#v[12]}{tn:Nat->Heap->Prop}{pos':Pos}{cs:List (Str×Addr)}{S T:Addr->Prop}{f:Int->Int->V}{Cs:Addr->Prop}{rest:List Stmt}{body:List Stmt}{R:Bool->Prop}{oT:Obj}{ta:TA}
open PySem PySem.Spec PyProof.Rows
theorem gW{env:Env}(hk:env.scope.kind=.function):∀{names:List (Str×Kd)}{x:Str},names.lookup x=some .free->env.kindOf x=some .cell->
  (names.map λ(n,k)=>if(k==Ee && env.scope.kind== .function && env.kindOf n==some .cell)then(n,Er)else(n,k)).lookup x=some .cell
 | [],_,h,_=>by simp at h
 |(n,k)::r,x,h,hc=>by
  have ih:=@gW env hk r x;show Hm x ((if(k==Ee && env.scope.kind== .function && env.kindOf n==some .cell)=true then(n,Er)else(n,k))::_)=_;cases hx:x==n with
  |true=>
   have e:x=n:=Ab8 hx;subst e;simp only[Bu,hx]at h;cases h;rw[Ab1 (by rw[hk,hc];rfl)];simp[Bu]
  |false=>
   simp only[Bu,hx]at h;by_cases hcc:(k==Ee && env.scope.kind== .function && env.kindOf n==some .cell)=true
   ·rw[Ab1 hcc];simp only[Bu,hx];exact ih h hc
   ·rw[Ab0 hcc];simp only[Bu,hx];exact ih h hc
theorem nJ{env:Env}:∀{names:List (Str×Kd)}{x:Str},((names.map λ(n,k)=>if(k==Ee && env.scope.kind== .function && env.kindOf n==some .cell)then(n,Er)else(n,k)).lookup x=some .cell∨
  (names.map λ(n,k)=>if(k==Ee && env.scope.kind== .function && env.kindOf n==some .cell)then(n,Er)else(n,k)).lookup x=some .free)->names.lookup x=some .free∨names.lookup x=some .cell
 | [],_,h=>by simp at h
 |(n,k)::r,x,h=>by
  have ih:=@nJ env r x
  replace h:Hm x ((if(k==Ee && env.scope.kind== .function && env.kindOf n==some .cell)=true then(n,Er)else(n,k))::_)=_∨Hm x ((if(k==Ee && env.scope.kind== .function && env.kindOf n==some .cell)=true then(n,Er)else(n,k))::_)=_:=h
  cases hx:x==n with
  |true=>
   simp only[Bu,hx];by_cases hcc:(k==Ee && env.scope.kind== .function && env.kindOf n==some .cell)=true
   ·have:k=.free:=by
     have:=(Kl _ _▸(Kl _ _▸hcc).1).1;exact Ab8 this
    exact .inl (by rw[this])
   ·rw[Ab0 hcc]at h;simp only[Bu,hx]at h;rcases h with h|h
    ·exact .inr h
    ·exact .inl h
  |false=>
   simp only[Bu,hx];by_cases hcc:(k==Ee && env.scope.kind== .function && env.kindOf n==some .cell)=true
   ·rw[Ab1 hcc]at h;simp only[Bu,hx]at h;exact ih h
   ·rw[Ab0 hcc]at h;simp only[Bu,hx]at h;exact ih h
def iH{a b c:Nat}(h1:a<b)(h2:b<=c):a≠c:=Bc (Bn h1 h2)
abbrev bD(X:Cx)(Nc:List Str)(scope:Scope)(cl:List (Str×Addr))(C:Addr)(s2:Shared)(H2:Hp)(fp:List Addr):Cx:=
 {prog:=X.prog,w:=X.w,K:=X.K,mg:=X.mg,base:=X.base,A:=X.A,N:=Nc,s₀:=s2,H₀:=H2,env:=Ys scope cl C X.env,outer:=X.stack,stack:=X.stack,ex:=fp,fn:=λ_=>false,calm:=X.calm,pn:=[],xe:=λ_ _=>False}
abbrev cH(own:List Str)(cap:#v[12]):List Str:=own++cap.map (·.1)
def oA(no:Nat)(cap:#v[12])(σ:St):St:=Bi no none++cap.map λp=>(σ[p.2]?).join
structure cZ(X:Cx)(scope:Scope)(cap:#v[12])(cl:List (Str×Addr)):Prop where
 clos:Ra scope X.env=pure cl
 kind:scope.kind=.function
 nocell:∀y∈scope.names,y.2≠.cell
 names:∀y∈scope.names,y.2=.local->scope.names.lookup y.1=some .local
 sub:∀x c,cl.lookup x=some c->X.env.cells.lookup x=some c
 has:∀x,scope.names.lookup x=some .free->∃c,cl.lookup x=some c
 cap:∀p∈cap,X.N[p.2]? =some p.1/\scope.names.lookup p.1=some .free/\X.env.scope.names.lookup p.1=some .cell
def aZl(J:It)(D:Addr)(g:TG)(te:TE)(Q:VK)(σ:St)(H:Hp):Prop:=∃W:Nat->Nat->St->Hp->Prop,
 (∃m,W 0 m σ H)/\∀i m σc H2,W i m σc H2->
  (J.stop i H2/\Q (.ref D) H2)∨(J.go i H2/\∀x H3,J.yld i H2 x H3->g x σc H3 λσ4 H4=>te σ4 H4 λy H5=>∃ys,H5 D=some (.lst ys)/\ys.length<sizeLine/\∃m',m'<m/\W (i+1) m' σ4 (upd H5 D (.lst (ys++[y]))))
def wK(no:Nat)(cap:#v[12])(wi:TI)(g:TG)(te:TE):TE:=λσ H Q=>wi σ H λJ H1=>∀D,H1 D=none->aZl J D g te Q (oA no cap σ) (upd H1 D (.lst []))
variable {X:Cx}{aa:#v[6]}{σ:St}{s2:Shared}{H2:Hp}
def aWl(J:It)(D:Addr)(g:TG)(tc:TT)(te:TE)(Q:VK)(σ:St)(H:Hp):Prop:=∃W:Nat->Nat->St->Hp->Prop,
 (∃m,W 0 m σ H)/\∀i m σc H2,W i m σc H2->
  (J.stop i H2/\Q (.ref D) H2)∨(J.go i H2/\∀x H3,J.yld i H2 x H3->g x σc H3 λσ4 H4=>tc σ4 H4 λok H4'=>if ok=true then te σ4 H4' λy H5=>∃ys,H5 D=some (.lst ys)/\ys.length<sizeLine/\∃m',m'<m/\W (i+1) m' σ4 (upd H5 D (.lst (ys++[y])))else∃m',m'<m/\W (i+1) m' σ4 H4')
def vI(no:Nat)(cap:#v[12])(wi:TI)(g:TG)(tc:TT)(te:TE):TE:=λσ H Q=>wi σ H λJ H1=>∀D,H1 D=none->aWl J D g tc te Q (oA no cap σ) (upd H1 D (.lst []))
def aLw{no:Nat}{cap:#v[12]}{own:List Str}(hno:own.length=no){x:Str}(h1:(cH own cap)[i]? =some x)(h2:(oA no cap σ)[i]? =some (some v)):
  ∃p∈cap,p.1=x/\σ[p.2]? =some (some v):=by
 subst hno;unfold oA at h2;by_cases hi:i<own.length
 ·rw[Dz (by simpa using hi),Gj]at h2;rw[Ab1 hi]at h2;cases h2
 ·rw[Ek (by simpa using hi)]at h2;unfold cH at h1;rw[Ek (by simpa using hi)]at h1;rw[Ef,Bg]at h2;rw[Bg]at h1;cases e:cap[i-own.length]? with
  |none=>rw[e]at h1;cases h1
  |some p=>
   rw[e]at h1 h2;refine#[p,Ai e,Bs h1,?_];have q:(σ[p.2]?).join=some v:=Bs h2;cases e2:σ[p.2]? with
   |none=>rw[e2]at q;cases q
   |some o=>rw[e2]at q;exact Ab9 some q
def aAh(scope:Scope):Prop:=∀y∈scope.names,y.2≠.cell
theorem rN:∀{names:List (Str×Kd)}{n:Nat},(∀y∈names,y.2≠.cell)->Ft n names []=[]
 | [],_,_=>rfl
 |(y,k)::r,n,h=>by
  unfold Ft;rw[Ab0 (λz=>h _ Ah (Ab8 z))];exact rN λz hz=>h z (Af _ hz)
def aAq(h:aAh scope):Ft n scope.names []=[]:=rN h
structure mY(X:Cx)(scope:Scope)(cap:#v[12])(cl:List (Str×Addr)):Prop where
 clos:Ra scope X.env=pure cl
 kind:scope.kind=.function
 names:∀y∈scope.names,y.2=.local->scope.names.lookup y.1=some .local
 sub:∀x c,cl.lookup x=some c->X.env.cells.lookup x=some c
 has:∀x,scope.names.lookup x=some .free->∃c,cl.lookup x=some c
 capn:∀p∈cap,¬(p.1,Er)∈scope.names
 cap:∀p∈cap,X.N[p.2]? =some p.1/\scope.names.lookup p.1=some .free/\X.env.scope.names.lookup p.1=some .cell
def dM(X:Cx)(scope:Scope)(cs:List (Str×Addr)):Prop:=∀x,(scope.names.lookup x=some .cell∨(scope.names.lookup x=some .free/\X.env.scope.names.lookup x=some .cell))->∃c,cs.lookup x=some c
abbrev bV(X:Cx)(Nc:List Str)(scope:Scope)(cs:List (Str×Addr))(C:Addr)(s2:Shared)(H2:Hp)(fp:List Addr):Cx:=
 {prog:=X.prog,w:=X.w,K:=X.K,mg:=X.mg,base:=X.base,A:=X.A,N:=Nc,s₀:=s2,H₀:=H2,env:={Ys scope [] C X.env with cells:=cs},outer:=X.stack,stack:=X.stack,ex:=fp,fn:=λx=>decide (scope.names.lookup x=some .cell),calm:=X.calm,pn:=[],xe:=λ_ _=>False}
theorem lA:∀(names:List (Str×Kd))(n:Nat)(af:List (Str×Addr)),Ft n names af=Ft n names []++af
 | [],_,_=>rfl
 |(y,k)::r,n,af=>by
  unfold Ft;split
  ·rw[lA r (n+1) ((y,n)::af),lA r (n+1) [(y,n)],Cz];rfl
  ·exact lA r n af
theorem nG:∀(names:List (Str×Kd))(n:Nat)(af:List (Str×Addr)){x:Str}{c:Addr},(x,c)∈Ft n names af->(x,Er)∈names∨(x,c)∈af
 | [],_,_,_,_,h=> .inr h
 |(y,k)::r,n,af,x,c,h=>by
  unfold Ft at h;split at h
  ·rename_i hk;rcases nG r _ _ h with z|z
   ·exact .inl (Af _ z)
   ·rcases Ax.mp z with e|z
    ·cases e;rw[show k=.cell from Ab8 hk];exact .inl Ah
    ·exact .inr z
  ·rcases nG r _ _ h with z|z
   ·exact .inl (Af _ z)
   ·exact .inr z
def aBw(h:(x,c)∈Ft n names []):(x,Er)∈names:=(nG names n [] h).elim id λz=>nomatch z
variable {α:Type}{A B:List (Str×α)}{x:Str}{c:α}
def pC:(A++B).lookup x=(A.lookup x).or (B.lookup x):=List.lookup_append ..
def aI4(h:(A++B).lookup x=some c):A.lookup x=some c∨(A.lookup x=none/\B.lookup x=some c):=by
 rw[pC]at h;cases q:A.lookup x with
 |none=>rw[q]at h;exact .inr #[rfl,h]
 |some d=>rw[q]at h;exact .inl h
def mH(h:A.lookup x=some c):(A++B).lookup x=some c:=by rw[pC,h];rfl
def vW(h:A.lookup x=none)(h':B.lookup x=some c):(A++B).lookup x=some c:=by rw[pC,h];exact h'
def vX(h:B.lookup x=some c):∃d,(A++B).lookup x=some d:=by
 cases q:A.lookup x with
 |none=>exact#[c,vW q h]
 |some d=>exact#[d,mH q]
def aI8{A:Cm}{Q:Env->Shared->Prop}(_hk:scope.kind=.function)
  (h:Q {scope:=scope,locals:=#v[0],globals:=globals,cells:=Ft (#v[0]+1) scope.names cl,qual:=qual,func:=none,code:=env0.code,frame:=env0.frame,builtins:=env0.builtins}
   {s with heap:=Og (s.heap.push #v[7]) scope.names}):
  Bb M A (Pf scope globals cl [] qual none .none (some env0)) Q E s:=by
 simp only[Pf,Ul,Ac2];refine Aa (wpAny_alloc (Aa (wpAny_layCells _ (λnm kd cs=>by cases hq:kd==Er<;>simp[hq]) _ _ _ _ ?_)));have e:({s with heap:=s.heap.push #v[7]}:Shared).heap.objs.size=#v[0]+1:=Df ..;rw[e];exact Aa (Ac (Ac h))
section
variable {prog:An}{w:Bh}{A:Cm}{R:Qe->Shared->Prop}{s:Shared}
def PTs(X:Cx)(cis:List Cr)(t:TT):Prop:=
 ∀(aa:#v[6])(s:Shared)(σ:St)(H:Hp)(Q:Bool->Hp->Prop),#v[3]->t σ H Q->Bb #v[a] X.A (forIn cis true λc r=>if r=true then do let ok<-Yo c X.env (eval c X.env);pure (Jl ok)else pure (Jl r)) (TP X aa σ Q) X.xe s
def aK6{X:Cx}{c:Cr}{t:TT}(h:PT X c t):PTs X [c] t:=λaa s σ H Q I q=>wpAny_tests_one (h aa s σ H Q I q)
def aRl:TT:=λ_ H Q=>Q true H
def zU{X:Cx}:PTs X [] aRl:=λaa s σ H Q I q=>wpAny_tests_nil #[H,I,q]
def aBy(I:Nat->Shared->Prop)
  (turn:∀n s,I n s->Bb #v[b] A (Gv it) (λr s₁=>match r with
   |none=>R (.ok .next) s₁
   |some v=>Bb #v[b] A (Oh target it v) (λ_ s₁'=>Bb #v[b] A (assign target env v) (λ_ s₂=>Bb #v[b] A (forIn cis true λc r=>if r=true then do let ok<-Yo c env (eval c env);pure (Jl ok)else pure (Jl r)) (λok s₂'=>if ok=true then Bb #v[b] A (eval elt env) (λx s₃=>
     Bb #v[b] A (call (.builtin "list.append") [af,x]) (λ_ s₄=>∃m,m<n/\I m s₄) (λ_ _=>False) s₃) (λ_ _=>False) s₂' else∃m,m<n/\I m s₂') (λ_ _=>False) s₂) (λ_ _=>False) s₁') (λ_ _=>False) s₁) (λ_ _=>False) s)
  (n:Nat) (h:I n s):
  Jn #v[b] A (.compLoop (.ListComp elt [#[target,iter,cis,0]] scope pos) 0 it af env) R s:=by
 refine codeAny_loop rfl I (λn s hI=>?_) n h;show Bb _ _ ((compTurn (.ListComp elt [#[target,iter,cis,0]] scope pos) 0 it af env).onRaise (λx=>do noteFrame x env;theTreesLotGoes x)) _ _ s;refine wpAny_noted ?_;rw[compTurn_list];refine Aa (Nb (Aa (Gd (turn n s hI) (λr s₁ h₁=>?_) λ_ _ h'=>h'.elim)));cases r with
 |none=>exact Ac h₁
 |some v=>
  refine Aa (Gd h₁ (λ_ s₁' h₁'=>?_) λ_ _ h'=>h'.elim);refine Aa (Gd h₁' (λ_ s₂ h₂=>?_) λ_ _ h'=>h'.elim);refine Aa (Gd h₂ (λokb s₃ h₃=>?_) λ_ _ h'=>h'.elim);cases okb with
  |false=>exact Ac #[rfl,h₃]
  |true=>exact Aa (Aa (Gd h₃ (λx s₄ h₄=>Aa (Gd h₄ (λ_ s₅ h₅=>Ac (Ac #[rfl,h₅])) λ_ _ h'=>h'.elim)) λ_ _ h'=>h'.elim))
end
def sO{elt iter tg:Cr}{cis:List Cr}{own:List Str}{cap:#v[12]}{J:It}{it:Addr}{Q:VK}
    (S:mY X scope cap cl) (hc:X.calm=true) (I:Inv X aa σ H2 s2) (T:Turn X.prog X.w X.K tg J fp it tn) (st:tn 0 s2.heap) (hf:∀b∈fp,aDh X aa H2 b)
    (hg:∀cs,dM X scope cs->(aAh scope->cs=cl)->∀C s2 H2 fp,PG #v[h] tg g) (htc:∀cs,dM X scope cs->(aAh scope->cs=cl)->∀C s2 H2 fp,PTs #v[h] cis tc) (he:∀cs,dM X scope cs->(aAh scope->cs=cl)->∀C s2 H2 fp,PE #v[h] elt te)
    (W:Nat->Nat->St->Hp->Prop) (w0:∃m,W 0 m (oA own.length cap σ) (upd H2 s2.heap.objs.size (.lst [])))
    (turn:#v[g])
    {RR:Value->Addr->Qe->Shared->Prop}
    (hRR:#v[s])
 :
    Bb #v[a] X.A (Xz []) (λaf s₃=>Bb #v[a] X.A (Pf scope X.env.globals cl [] X.env.qual none .none (some X.env)) (λcenv s₄=>
      Jn #v[a] X.A (.compStart #v[13] 0 (.ref it) af {cenv with scope:=relabel scope X.env}) (RR af cenv.locals) s₄) E s₃) E s2:=by
  refine Cd (aI8 S.kind ?_);dsimp only;generalize hH2:s2.heap.push {cls:=.type "list",dict:=none,data:=.seq ([]:List Value).toArray}=G2;have hC:G2.objs.size=s2.heap.objs.size+1:=by rw[<-hH2,Df]
  have hDC:s2.heap.objs.size≠G2.objs.size:=by rw[hC];exact Bc (Gy _)
  have hCle:s2.heap.objs.size<=G2.objs.size:=by rw[hC];exact Hq _
  have below:∀b,b<s2.heap.objs.size->b≠G2.objs.size/\b≠s2.heap.objs.size:=λb hb=>#[by rw[hC];exact Bc (Iy hb),Bc hb];have hG1:(G2.push #v[7]).objs.size=G2.objs.size+1:=Df ..;have okA:=cellsFrom_ok scope.names (G2.push #v[7]) (G2.objs.size+1) [] #[λ_ _ z=>(nomatch z),Rf] (by rw[hG1];exact Ak _);rw[hG1]at okA;have app:Ft (G2.objs.size+1) scope.names cl=Ft (G2.objs.size+1) scope.names []++cl:=lA _ _ _;have kept:∀b o,G2.get? b=some o->(Og (G2.push #v[7]) scope.names).get? b=some o:=λb o e=>Abn _ _ b o (Ae _ e);have hns₁:(Og (G2.push #v[7]) scope.names).Ns G2.objs.size (λ_=>none):=(Heap.Ns.new G2 (.type "dict")).keeps (Abn _ _);have old:∀b o,s2.heap.get? b=some o->(Og (G2.push #v[7]) scope.names).get? b=some o:=λb o e=>kept b o (hH2▸Ae _ e);have hacc:(Og (G2.push #v[7]) scope.names).get? s2.heap.objs.size=some {cls:=.type "list",dict:=none,data:=.seq ([]:List Value).toArray}:=kept _ _ (hH2▸Au _ rfl);have newc:∀x c,(Ft (G2.objs.size+1) scope.names []).lookup x=some c->(Og (G2.push #v[7]) scope.names).IsCell c none/\G2.objs.size+1<=c:=λx c e=>okA.empty x c (Dj e);have newinj:∀x y c,(Ft (G2.objs.size+1) scope.names []).lookup x=some c->(Ft (G2.objs.size+1) scope.names []).lookup y=some c->x=y:=λx y c e1 e2=>name_of_addr okA.apart (Dj e1) (Dj e2);have ownc:∀x,scope.names.lookup x=some .cell->∃c,(Ft (G2.objs.size+1) scope.names []).lookup x=some c:=λx hx=>Ll.mp (Md scope.names _ [] (.inl hx));generalize hh₁:Og (G2.push #v[7]) scope.names=h₁ at hns₁ old hacc newc⊢;generalize hcA:Ft (G2.objs.size+1) scope.names []=cA at app newc newinj ownc;generalize hcs:Ft (G2.objs.size+1) scope.names cl=cs at app⊢;subst app;have both:∀x c,(cA++cl).lookup x=some c->(cA.lookup x=some c∨(cA.lookup x=none/\cl.lookup x=some c)):=λx c e=>aI4 e;have hfps:∀b∈fp,b<s2.heap.objs.size:=λb hb=>by
    obtain⟨o,e,_⟩:=T.obj _ _ st b hb;exact Aw e
  have hfree:∀b,s2.heap.objs.size<=b->H2 b=none:=λb hb=>I.hok.fresh hb;have old2:∀x c,cl.lookup x=some c->c<s2.heap.objs.size:=λx c e=>by
    obtain⟨v,o,ho,_⟩:=I.cell x c (S.sub x c e);exact Aw ho
  have clash:∀c,G2.objs.size+1<=c->c<s2.heap.objs.size->False:=λc h1 h2=>Ej _ (Bn h2 (Dd hCle (Pk h1)));have ceq:aAh scope->cA++cl=cl:=λn=>by rw[<-hcA,aAq n];rfl
  have cfor:dM X scope (cA++cl):=λx hx=>by
    rcases hx with h|⟨h,_⟩
    · obtain⟨c,e⟩:=ownc x h
      exact#[c,mH e]
    · obtain⟨c,e⟩:=S.has x h
      exact vX e
  generalize hX:bV X (cH own cap) scope (cA++cl) G2.objs.size s2 H2 fp=X';have hOk:X'.Ok:=by
    subst hX;refine⟨I.ok.mod,S.kind,I.ok.glob,I.ok.blt,hCle,λx y c e1 e2=>?_,λx hx=>?_,λx c z e=>?_,I.ok.hd,I.ok.frames,.inl rfl,
      λb hb=>#[(below b (hfps b hb)).1,λx c e=>?_],I.bs,Dd I.ok.bsz I.sz,λb o e hb=>?_,λb hb z=>?_,I.stack,I.stkFree⟩
    · rcases both x c e1 with a1|⟨_,a1⟩
      · rcases both y c e2 with a2|⟨_,a2⟩
        · exact newinj x y c a1 a2
        · exact(clash c (newc x c a1).2 (old2 y c a2)).elim
      · rcases both y c e2 with a2|⟨_,a2⟩
        · exact(clash c (newc y c a2).2 (old2 x c a1)).elim
        · exact I.ok.inj x y c (S.sub x c a1) (S.sub y c a2)
    · rcases nJ (env:=X.env) (names:=scope.names) (x:=x) hx with h|h
      · obtain⟨c,e⟩:=S.has x h
        exact vX e
      · obtain⟨c,e⟩:=ownc x h
        exact#[c,mH e]
    · obtain⟨c',e'⟩:=ownc x (Ab3 z)
      have q:(cA++cl).lookup x=some c':=mH e';have q2:some c'=some c:=q.symm.trans e;cases q2;exact Dd hCle (Dd (Hq _) (newc x c e').2)
    · rcases both x c e with a1|⟨_,a1⟩
      · exactλz=>clash c (newc x c a1).2 (z.symm▸hfps b hb)
      · exact(hf b hb).2.2.2.2.1 x c (S.sub x c a1)
    · rcases (hf b hb).2.2.2.1 with z|z
      · exact I.ok.noex b o e z
      · exact Ab2 (Bn (Aw e) (Dd I.ok.bsz z)) (Ej _)
    · rcases Ax.mp (I.stkSub b z)with z|z
      · exact(hf b hb).2.1 z
      · exact(hf b hb).2.2.1 z
  have hI0:Inv X' [] (oA own.length cap σ) (upd H2 s2.heap.objs.size (.lst [])) {s2 with heap:=h₁}:=by
    subst hX;refine#[hOk,rfl,I.bare,Un.laid old (Ak _) (hfree _ (Ak _)),#[_,hns₁,λi x v e1 e2 e3=>?_],λx c e=>?_,?_,λx c e=>?_,λp hp=>Ab2 (show p∈([]:#v[6])from hp) (by simp),?_,?_]
    · obtain⟨p,hp,rfl,hσ⟩:=aLw rfl e1 e2
      obtain⟨c1,c2,c3⟩:=S.cap p hp;obtain⟨m,hn,hl⟩:=I.loc;obtain⟨u,r,l⟩:=hl p.2 p.1 v c1 hσ (.inr (.inl c3));refine#[u,r,.inr #[.inl (gW I.ok.kind c2 c3),?_]];obtain⟨c,hcl⟩:=S.has _ c2;have nA:cA.lookup p.1=none:=by
        cases q:cA.lookup p.1 with
        |none=>rfl
        |some c0=>
          have z:=Dj q;rw[<-hcA]at z;exact Ab2 (aBw z) (S.capn p hp)
      refine#[c,vW nA hcl,?_];rcases l with ⟨k,_⟩|⟨_,c',e,z⟩
      · have k':X.env.scope.names.lookup p.1=some .local:=k
        rw[c3]at k';cases k'
      · have:=S.sub _ _ hcl
        rw[e]at this;cases this;obtain⟨o,ho,hd⟩:=z;exact#[o,old _ _ ho,hd]
    · rcases both x c e with a1|⟨_,a1⟩
      · exact#[none,(newc x c a1).1]
      · obtain⟨v,o,ho,hd⟩:=I.cell x c (S.sub x c a1)
        exact#[v,o,old _ _ ho,hd]
    · show upd H2 s2.heap.objs.size (.lst []) G2.objs.size=none
      rw[aN (Dc hDC)];exact hfree _ hCle
    · rcases both x c e with a1|⟨_,a1⟩
      · have h1:=(newc x c a1).2
        have h2:s2.heap.objs.size<=c:=Dd hCle (Pk h1);have h3:c≠s2.heap.objs.size:=λz=>by
          rw[z]at h1;exact hDC (Nat.le_antisymm hCle (Pk h1))
        rw[aN h3];exact hfree c h2
      · have e':=S.sub x c a1
        obtain⟨v,o,ho,hd⟩:=I.cell x c e';rw[aN (below c (Aw ho)).2];exact I.freeC x c e'
    · exact I.hok.laid old (Ak _) #[Bp _,[],_,.nil,hacc]
    · show(oA own.length cap σ).length=(cH own cap).length
      unfold oA cH;simp
  have hP:X'.prog=X.prog:=by subst hX;rfl
  have hw:X'.w=X.w:=by subst hX;rfl
  have hK:X'.K=X.K:=by subst hX;rfl
  have hA:X'.A=X.A:=by subst hX;rfl
  have hcalm:X'.calm=true:=by subst hX;exact hc
  have hxe:X'.xe=λ_ _=>False:=by subst hX;rfl
  have henv:X'.env={Ys scope cl G2.objs.size X.env with cells:=cA++cl}:=by subst hX;rfl
  have hbase:∀{σ' H' s'},Inv X' [] σ' H' s'->Un (frs X.stack) fp H2 H' s2.heap s'.heap/\s'.os=s2.os:=λ{σ' H' s'} J=>by subst hX;exact#[J.base,J.os]
  have hg':PG X' tg g:=by subst hX;exact hg _ cfor ceq _ _ _ _
  have he':PE X' elt te:=by subst hX;exact he _ cfor ceq _ _ _ _
  have htc':PTs X' cis tc:=by subst hX;exact htc _ cfor ceq _ _ _ _
  have stat:∀{H':Hp},(∀b∈fp,H' b=none)->∀b∈fp,aDh X' [] H' b:=λ{H'} hn b hb=>by
    subst hX;refine#[hn b hb,(below b (hfps b hb)).1,λz=>?_,.inl hb,λx c e=>?_,λp hp=>Ab2 (show p∈([]:#v[6])from hp) (by simp)];rcases Ax.mp (I.stkSub b z)with z|z
    · exact(hf b hb).2.1 z
    · exact(hf b hb).2.2.1 z
    rcases both x c e with a1|⟨_,a1⟩
    · exactλz=>clash c (newc x c a1).2 (z.symm▸hfps b hb)
    · exact(hf b hb).2.2.2.2.1 x c (S.sub x c a1)
  have back:∀{σ' H' s'},Inv X' [] σ' H' s'->Q (.ref s2.heap.objs.size) H'->RR (.ref s2.heap.objs.size) G2.objs.size (.ok .next) s':=λ{σ' H' s'} J q=>by
    obtain⟨u,ho⟩:=hbase J;have hcf:∀b∈fp,(b∈X.ex∨X.s₀.heap.objs.size<=b)/\b≠X.env.locals/\(∀x c,X.env.cells.lookup x=some c->c≠b)/\∀p∈X.pn++aa,p.1≠b:=λb hb=>by
      obtain⟨f0,f1,f2,f3,f4,f5⟩:=hf b hb;exact#[f3,f1,f4,f5]
    have hCn:H' G2.objs.size=none:=by have:=J.free;rw[henv]at this;exact this
    have hok':HOk X.prog X.w H' s'.heap:=by have:=J.hok;rw[hP,hw]at this;exact this
    obtain⟨m,hm,_⟩:=J.loc;rw[henv]at hm;refine hRR _ H' s' m hCle hm hCn (I.call' ho u hok' J.bare hcf) (λh' hs=>?_) q;have kn:∀b o,s2.heap.get? b=some o->h'.get? b=s'.heap.get? b:=λb o e=>hs.2 b (below b (Aw e)).1;refine I.call' (s':={s' with heap:=h'}) ho #[λb o e n hb hx=>(kn b o e).trans (u.keep b o e n hb hx),λb o e n hb hx=>?_,u.free,λb o e hx=>?_,u.tups,u.frzs,u.tbls] (λb ob e=>?_) J.bare hcf
    · obtain⟨sl,e1⟩:=u.slot b o e n hb hx
      exact#[sl,(kn b o e).trans e1]
    · obtain⟨o',e1⟩:=u.there b o e hx
      exact#[o',(kn b o e).trans e1]
    · refine(hok' b ob e).stay (λc w' hc q=>(hs.2 c ?_).trans q) (λ_ q=>q) λ_ _ q=>q
      rintro rfl;rcases hc with rfl|hc
      · rw[hCn]at e;cases e
      · rw[hCn]at hc;cases hc
  have loop:∀s₃:Shared,s₃={s2 with heap:=h₁}->
      Jn #v[a] X.A (.compLoop #v[13] 0 (.ref it) (.ref s2.heap.objs.size) {Ys scope cl G2.objs.size X.env with cells:=cA++cl})
        (RR (.ref s2.heap.objs.size) G2.objs.size) s₃:=by
    rintro s₃ rfl;obtain⟨m0,w0⟩:=w0;refine aBy (λn s'=>∃i σ' H',Inv X' [] σ' H' s'/\tn i s'.heap/\(∀b∈fp,H' b=none)/\W i n σ' H') ?_ m0
      #[0,_,_,hI0,T.keep _ _ _ st λb hb o e=>old b o e,λb hb=>?_,w0]
    · rintro n s3 ⟨i,σ3,H3,I3,st3,fr3,w3⟩
      rcases turn i n σ3 H3 w3 with ⟨stop,qn⟩|⟨go,step⟩
      · have d:=T.done X' hP hw hK hcalm i [] s3 σ3 H3 (λ_ _=>False) I3 (stat fr3) st3 stop
        rw[hA]at d;refine thn d λr s4 ⟨hr,I4⟩=>?_;subst hr;exact back I4 qn
      · have d:=T.item X' hP hw hK hcalm i [] s3 σ3 H3 (λ_ _=>False) I3 (stat fr3) st3 go
        rw[hA]at d;refine thn d λr s4 ⟨u,hr,h4⟩=>?_;subst hr;refine thn h4 λ_ s5 ⟨x,H5,I5,r5,y5,st5,fr5⟩=>?_;have I5':=I5.pinned (stat fr5) (T.obj _ _ st5);have d2:=hg' _ s5 σ3 H5 x u _ I5' r5 (step x H5 y5);rw[hP,hw,hA,hxe,henv]at d2;refine thn d2 λ_ s6 ⟨σ6,H6,I6,q6⟩=>?_;have dt:=htc' _ s6 σ6 H6 _ I6 q6;rw[hP,hw,hA,hxe,henv]at dt;refine thn dt λokb s6' ⟨H6',I6',q6'⟩=>?_;cases okb with
        |false=>
          obtain⟨m',hm,w7⟩:=q6';refine#[m',hm,i+1,σ6,H6',I6'.unpinned,T.keep _ _ _ st5 λb hb o e=>(I6'.pin (b,o) (Be _ (Be _ (kE hb e)))).1,λb hb=>?_,w7];obtain⟨o,e,d⟩:=T.obj _ _ st5 b hb;exact(I6'.pin (b,o) (Be _ (Be _ (kE hb e)))).2.1
        |true=>
        have d3:=he' _ s6' σ6 H6' _ I6' q6';rw[hP,hw,hA,hxe,henv]at d3;refine thn d3 λy7 s7 ⟨v7,H7,I7,r7,ys,e7,l7,m',hm,w7⟩=>?_;have d4:=xN (X:=X') _ s7 σ6 H7 (.ref s2.heap.objs.size) [v7] (.ref s2.heap.objs.size) [y7] (λ_ H8=>W (i+1) m' σ6 H8) I7 rfl (.cons r7 .nil) #[_,ys,v7,rfl,rfl,e7,l7,w7];rw[hP,hw,hA,hxe]at d4;refine thn d4 λ_ s8 ⟨v8,H8,I8,_,w8⟩=>?_;refine#[m',hm,i+1,σ6,H8,I8.unpinned,T.keep _ _ _ st5 λb hb o e=>(I8.pin (b,o) (Be _ (Be _ (kE hb e)))).1,λb hb=>?_,w8];obtain⟨o,e,d⟩:=T.obj _ _ st5 b hb;exact(I8.pin (b,o) (Be _ (Be _ (kE hb e)))).2.1
    · rw[aN (below b (hfps b hb)).2]
      exact(hf b hb).1
  exact codeAny_compStart_list (loop _ rfl) (T.self _ 0 _ _ _ (T.keep _ _ _ st λb hb o e=>old b o e) (loop _ rfl))
def cZ.noC{cap:#v[12]}(S:cZ X scope cap cl):mY X scope cap cl:=#[S.clos,S.kind,S.names,S.sub,S.has,λp _ h=>S.nocell _ h rfl,S.cap]
def cZ.cx{cap:#v[12]}(S:cZ X scope cap cl)(Nc:List Str)(C:Addr)(s2:Shared)(H2:Hp)(fp:List Addr):bV X Nc scope cl C s2 H2 fp=bD X Nc scope cl C s2 H2 fp:=by
 have e:(λx=>decide (scope.names.lookup x=some Er))=λ_=>false:=funext λx=>Ab6 λh=>S.nocell _ (Dj h) rfl;unfold bV bD;rw[e];rfl
def yL{Q:VK}
    (S:cZ X scope cap cl) (hc:X.calm=true) (I:Inv X aa σ H2 s2) (T:Turn X.prog X.w X.K tg J fp it tn) (st:tn 0 s2.heap) (hf:∀b∈fp,aDh X aa H2 b)
    (hg:∀C s2 H2 fp,PG #v[2] tg g) (htc:∀C s2 H2 fp,PTs #v[2] cis tc) (he:∀C s2 H2 fp,PE #v[2] elt te)
    (W:Nat->Nat->St->Hp->Prop) (w0:∃m,W 0 m (oA own.length cap σ) (upd H2 s2.heap.objs.size (.lst [])))
    (turn:#v[g])
    {RR:Value->Addr->Qe->Shared->Prop}
    (hRR:#v[s])
 :
    Bb #v[a] X.A (Xz []) (λaf s₃=>Bb #v[a] X.A (Pf scope X.env.globals cl [] X.env.qual none .none (some X.env)) (λcenv s₄=>
      Jn #v[a] X.A (.compStart #v[13] 0 (.ref it) af {cenv with scope:=relabel scope X.env}) (RR af cenv.locals) s₄) E s₃) E s2:=
  sO S.noC hc I T st hf (λcs _ e C s2 H2 fp=>by rw[e S.nocell,S.cx];exact hg C s2 H2 fp) (λcs _ e C s2 H2 fp=>by rw[e S.nocell,S.cx];exact htc C s2 H2 fp) (λcs _ e C s2 H2 fp=>by rw[e S.nocell,S.cx];exact he C s2 H2 fp) W w0 turn hRR
def aGy
  (S:cZ X scope cap cl) (hc:X.calm=true) (hi:PI X tg iter wi)
  (hg:∀C s2 H2 fp,PG #v[2] tg g) (htc:∀C s2 H2 fp,PTs #v[2] cis tc) (he:∀C s2 H2 fp,PE #v[2] elt te)
  (hs:FS X iter):PE X #v[13] (vI own.length cap wi g tc te):=by
 intro aa s σ H Q I h;rw[eval_ListComp];refine Jz (use:=none) rfl hs S.clos S.kind S.names (thn (hi aa s σ H _ I h) λv s1 h1=>thn h1 λitv s2 h2=>?_);obtain⟨it,fp,tn,J,H2,e,I2,T,st2,f2,rd⟩:=h2;subst e;obtain⟨W,w0,turn⟩:=rd _ (I2.hok.fresh (Ak _));exact yL (RR:=λaf C=>Yr #v[a] X.A X.xe none (EP X aa σ Q) af C) S hc I2 T st2 f2 hg htc he W w0 turn
  λC H' s' m _ hm _ _ hback q=>#[m,hm,λh' hs'=>#[.ref s2.heap.objs.size,H',hback h' hs',rfl,q]]
def yR{x:Str}{pos spos py:Pos}
  (hN:X.N.Nodup) (hi':X.N[i]? =some x) (hx:Loc X.env.scope x) (S:cZ X scope cap cl) (hc:X.calm=true) (hi:PI X tg iter wi)
  (hg:∀C s2 H2 fp,PG #v[2] tg g) (htc:∀C s2 H2 fp,PTs #v[2] cis tc) (he:∀C s2 H2 fp,PE #v[2] elt te)
  (hsw:Fe #v[13] (some (.Name x py)) spos.line X.env=pure true)
  (hs:FS X iter) (hf:FL X x):
  PS X (.Assign [.Name x py] #v[13] spos) (aHj (vI own.length cap wi g tc te) (pY i)):=by
 intro aa s σ H D I h;rw[Ww _ _ _ _ hsw];refine Aa (Nb (Aa ?_));show Bb _ X.A (do let _<-comprehension #v[13] scope X.env _ (Xz []) false (eval iter X.env) (some (assign (.Name x py) X.env))) _ _ s;refine Aa (Gd (Jz (use:=some (assign (.Name x py) X.env)) (Q:=λ_ s'=>SP X aa D .next s') rfl hs S.clos S.kind S.names
  (thn (hi aa s σ H _ I h) λv s1 h1=>thn h1 λitv s2 h2=>?_)) (λ_ s' hq=>Ac (Ac hq)) λ_ _ e=>e)
 obtain⟨it,fp,tn,J,H2,e,I2,T,st2,f2,rd⟩:=h2;subst e;obtain⟨W,w0,turn⟩:=rd _ (I2.hok.fresh (Ak _));refine yL (Q:=λx H1=>pY i x σ H1 D.nx) (RR:=λaf C=>Yr #v[a] X.A X.xe (some (assign (.Name x py) X.env)) (λ_ s'=>SP X aa D .next s') af C) S hc I2 T st2 f2 hg htc he W w0 turn
  λC H' s' m hCle hm hCn I' hback q=>?_
 refine Qw (yF (v:=.ref s2.heap.objs.size) I' hN hi' hx rfl (λs'' I'' ⟨a,hsa,ha⟩=>?_) hf);have hCa:C≠a:=by
  rcases ha with z|z
  ·rw[z];exact Dc (iH I2.lt hCle)
  ·obtain⟨v,q'⟩:=I2.cell x a z;exact Dc (iH q'.lt hCle)
 refine#[m,hm.sameBut hsa hCa,λh' hs'=>#[_,H',?_,q]];have hC0:X.s₀.heap.objs.size<=C:=Dd I2.sz hCle;have hnp:∀p∈X.pn++aa,p.1≠C:=λp hp=>iH (Aw (I2.pin p hp).1) hCle;have hcl:∀y c,X.env.cells.lookup y=some c->c≠C:=λy c e=>by
  obtain⟨v,q'⟩:=I2.cell y c e;exact iH q'.lt hCle
 have hL:C≠X.env.locals:=Dc (iH I2.lt hCle);exact I''.turned (t':=s''.toks) (it:=C) (λb o hb e=>(hs'.2 b hb).trans e) hCn hL (.inr hC0) hcl hnp
def aK3
  (S:cZ X scope cap cl) (hc:X.calm=true) (hi:PI X tg iter wi)
  (hg:∀C s2 H2 fp,PG #v[2] tg g) (he:∀C s2 H2 fp,PE #v[2] elt te)
  (hs:FS X iter:=by intro _;rfl):PE X #v[8] (wK own.length cap wi g te):=
 aGy (tc:=aRl) S hc hi hg (λ_ _ _ _=>zU) he hs
def aJk{x:Str}{pos spos py:Pos}
  (hN:X.N.Nodup) (hi':X.N[i]? =some x) (hx:Loc X.env.scope x) (S:cZ X scope cap cl) (hc:X.calm=true) (hi:PI X tg iter wi)
  (hg:∀C s2 H2 fp,PG #v[2] tg g) (he:∀C s2 H2 fp,PE #v[2] elt te)
  (hsw:#v[p]:=by rfl)
  (hs:FS X iter:=by intro _;rfl) (hf:FL X x:=by trivial):
  PS X (.Assign [.Name x py] #v[8] spos) (aHj (wK own.length cap wi g te) (pY i)):=
 yR (tc:=aRl) hN hi' hx S hc hi hg (λ_ _ _ _=>zU) he hsw hs hf
def aQm
  (S:cZ X scope cap cl) (hc:X.calm=true) (hi:PI X tg iter wi)
  (hg:∀C s2 H2 fp,PG #v[2] tg g) (htc:∀C s2 H2 fp,PT #v[2] ci tc) (he:∀C s2 H2 fp,PE #v[2] elt te)
  (hs:FS X iter:=by intro _;rfl):PE X #v[9] (vI own.length cap wi g tc te):=
 aGy S hc hi hg (λ_ _ _ _=>aK6 (htc _ _ _ _)) he hs
def aG1{x:Str}{pos spos py:Pos}
  (hN:X.N.Nodup) (hi':X.N[i]? =some x) (hx:Loc X.env.scope x) (S:cZ X scope cap cl) (hc:X.calm=true) (hi:PI X tg iter wi)
  (hg:∀C s2 H2 fp,PG #v[2] tg g) (htc:∀C s2 H2 fp,PT #v[2] ci tc) (he:∀C s2 H2 fp,PE #v[2] elt te)
  (hsw:Fe #v[9] (some (.Name x py)) spos.line X.env=pure true:=by rfl)
  (hs:FS X iter:=by intro _;rfl) (hf:FL X x:=by trivial):
  PS X (.Assign [.Name x py] #v[9] spos) (aHj (vI own.length cap wi g tc te) (pY i)):=
 yR hN hi' hx S hc hi hg (λ_ _ _ _=>aK6 (htc _ _ _ _)) he hsw hs hf
def Ite(K:Ad)(a:Addr):It:=
 #[λi H=>∃xs x,SqL K H a xs/\xs[i]? =some x,λi H y H'=>∃p x,H p=none/\y=.ref p/\H'=upd H p (.tup [.int i,x])/\∀xs,SqL K H a xs->xs[i]? =some x,λi H=>∃xs,SqL K H a xs/\xs.length<=i]
def aNd{P:An}{w:Bh}{K:Ad}{es:List Cr}(a e it:Addr)(hei:e≠it):
  Turn P w K (.Tuple es k pos) (Ite K a) [e,it] e (λi h=>(∃old,IsEnum h e it ((i:Nat):Int) old)/\h.IsListIter it a i) where
 mem:=by simp
 obj:=λi h st b hb=>by
  obtain⟨⟨old,he⟩,⟨o,e1,c,d⟩⟩:=st;rcases Ax.mp hb with rfl|hb
  ·exact⟨_,he,λv z=>by
    have z':Vj _=Qu v:=z;cases z'⟩
  ·have e2:b=it:=by simpa using hb
   subst e2;exact#[o,e1,λv z=>by rw[d]at z;cases z]
 keep:=λi h h' st k=>by
  obtain⟨⟨old,he⟩,hit⟩:=st;exact#[#[old,k e (by simp) _ he],hit.at λo e'=>k it (by simp) o e']
 item:=by
  intro X hP hw hK hc i aa s σ H E I hf st hg;subst hP hw hK;obtain⟨⟨old,he⟩,hit⟩:=st;obtain⟨xs,x,hq,hx⟩:=hg;obtain⟨ab,rv,p,hz⟩:=I.list hq;obtain⟨u,hu,ru⟩:=rv.get hx;refine wpAny_pyNext_enum_item he hit p.isList (x:=u) (by simpa using hu) hei λh' heo hit' ht hz' hk=>?_;refine#[_,rfl,wpAny_letOwnedTupleGo_enum heo λh'' he'' hs''=>?_];have hT:H #v[0]=none:=I.hok.fresh (Ak _);have heT:e≠#v[0]:=Bc (Aw he);have hfe:=hf e (by simp);have hfi:=hf it (by simp);have keep:∀b o,b≠e->b≠it->s.heap.get? b=some o->h''.get? b=some o:=λb o h1 h2 h3=>(hs''.2 b h1).trans (hk b o h1 h2 h3);have keepc:∀b o,b∉[e,it]->s.heap.get? b=some o->h''.get? b=some o:=λb o h1 h3=>keep b o (λz=>h1 (by simp[z])) (λz=>h1 (by simp[z])) h3;have tup:=(hs''.2 _ (Dc heT)).trans ht;have nf:∀b u,H b=some u->b≠e/\b≠it:=λb u q=>#[λz=>(by rw[z,hfe.1]at q;cases q),λz=>(by rw[z,hfi.1]at q;cases q)];have nT:∀b u,H b=some u->b≠#v[0]:=λb u q=>aR q hT;have iti:it≠#v[0]:=by obtain⟨o,e1,_⟩:=hit;exact Bc (Aw e1)
  refine#[.ref #v[0],upd H #v[0] (.tup [.int i,x]),?_,rfl,#[_,x,hT,rfl,rfl,λys hy=>by rw[I.list_inj hy hq];exact hx],#[#[_,he''],?_],λb hb=>?_]
  ·show Inv X aa σ (upd H #v[0] (.tup [.int i,x])) {s with heap:=h'',gens:=s.gens,drawn:=s.drawn,toks:=s.toks+1};refine Inv.step (s:=s) (h':=h'') (t':=s.toks+1) (g':=s.gens) (d':=s.drawn) (ch:=[e,it]) I (λb hb=>?_) (λb o _ _ hc' q _=>keepc b o hc' q) (λb o _ _ hc' q _=>#[o.slots,keepc b o hc' q]) (λb o _ q n=>by rw[aN (Bc (Aw q))];exact n)
    (λb o hc' q=>#[o,keepc b o hc' q]) (λb ys q=>by rw[aN (nT b _ q)];exact q) (λb o' ys q=>by rw[aN (nT b _ q)];exact q) (λb ps q=>#[(List.toArray []),by rw[aN (nT b _ q),q];simp]) (λm hm=>?_) (λb ob q=>?_) I.bare
   ·rcases Ax.mp hb with rfl|hb
    ·exact#[hfe.2.2.2.1,hfe.2.1,hfe.2.2.2.2.1,hfe.2.2.2.2.2]
    ·have e2:b=it:=by simpa using hb
     subst e2;exact#[hfi.2.2.2.1,hfi.2.1,hfi.2.2.2.2.1,hfi.2.2.2.2.2]
   ·obtain⟨o,es,ep,ho,r⟩:=hm;exact#[o,es,ep,keep _ o (Dc hfe.2.1) (Dc hfi.2.1) ho,r]
   ·by_cases hb:b=#v[0]
    ·subst hb;rw[aP]at q;cases q;exact#[show 2<=sizeLine by decide,[.int i s.toks,u],.cons #[_,rfl] (.cons ru .nil),#[_,tup,rfl,_,rfl]]
    ·rw[aN hb]at q;refine(I.hok b ob q).stay (λc w' hc' q'=>?_) (λc q'=>by rw[aN (nT c _ q')];exact q') (λc ys q'=>by rw[aN (nT c _ q')];exact q');have hne:c≠e/\c≠it:=by
      rcases hc' with rfl|hc'
      ·exact nf _ _ q
      ·exact nf _ _ hc'
     exact keep c w' hne.1 hne.2 q'
  ·exact hit'.at λo e'=>(hs''.2 it (Dc hei)).trans e'
  ·rcases Ax.mp hb with rfl|hb
   ·rw[aN heT];exact hfe.1
   ·have e2:b=it:=by simpa using hb
    subst e2;rw[aN iti];exact hfi.1
 done:=by
  intro X hP hw hK hc i aa s σ H E I hf st hg;subst hP hw hK;obtain⟨⟨old,he⟩,hit⟩:=st;obtain⟨xs,hq,hx⟩:=hg;obtain⟨ab,rv,p,hz⟩:=I.list hq;obtain⟨f0,f1,f2,f3,f4,f5⟩:=hf it (by simp);have hl:=rv.length;exact wpAny_pyNext_enum_end (I.ok.hd hc) he hit p.isList (by simp;lia) λh' eb=>#[rfl,I.turned (t':=s.toks) (λb o hb q=>eb b o hb q) f0 f1 f3 f4 f5]
 self:=λ_ _ _ _ _ st h=>by
  obtain⟨⟨old,he⟩,hit⟩:=st;exact Zu he h
def bAf(K:Ad)(ta:TA):TI:=λσ H R=>ta σ H λvs H1=>∃a,vs=[.ref a]/\(∃xs,SqL K H1 a xs)/\R (Ite K a) H1
def aTx{es:List Cr}{a:Cr}{p pos:Pos}(hg:Gl X "enumerate")(hm:X.mg "enumerate"=none)(ha:PA X [a] ta)(hs:Ca [a] X.env=[(false,eval a X.env)]:=by rfl):
  PI X (.Tuple es k pos') (.Call (.Name "enumerate" p) [a] [] pos) (bAf X.K ta):=by
 intro aa s σ H R I h;refine Call_ (pB I hg hm boot_enumerate (Eb (thn (ha pos aa s σ H _ I h) λus s1 ⟨vs,H1,I1,r1,q1⟩=>?_) hs rfl));obtain⟨l,e,⟨xs,hq⟩,q⟩:=q1;subst e;cases r1 with
 |cons r rr=>
  cases rr;cases r;obtain⟨ab,rv,pl,hz⟩:=I1.list hq;refine call_enumerate_list pl.isList λh' he hit hz' hk=>Zu he ?_;have I2:Inv X aa σ H1 {s1 with heap:=h'}:=I1.kept (t':=s1.toks) λb o e=>hk b o e;have hne:s1.heap.objs.size+1≠s1.heap.objs.size:=Nat.succ_ne_self _;refine#[s1.heap.objs.size+1,[s1.heap.objs.size+1,s1.heap.objs.size],_,_,H1,rfl,I2,aNd l _ _ hne,#[#[_,he],hit],λb hb=>?_,q];rcases Ax.mp hb with rfl|hb
  ·exact I1.fpOk (Hq _) (I1.hok.fresh (Hq _))
  ·have e2:b=s1.heap.objs.size:=by simpa using hb
   subst e2;exact I1.fpOk (Ak _) (I1.hok.fresh (Ak _))
def aFw:dR X (.builtin "isinstance") (λxs H Q=>∃x n t b,xs=[x,.ty n]/\vO X.K H x t/\Qf X.K t (.type n)=some b/\Q (.bl b) H):=by
 intro aa s σ H xs us Q I r h;obtain⟨x,n,t,b,rfl,ty,e,q⟩:=h;obtain⟨u,w',rfl,ru,rw'⟩:=vals2 r;cases rw';exact aMa I ru ty e λtk=>#[.bl b,H,I.tok tk,rfl,q]
def aQf:OpR X (Jk .Add) (λx y H Q=>∃a b ys,x=.ref a/\y=.ref b/\SqT X.K H a []/\SqT X.K H b ys/\Q (.ref b) H):=by
 intro aa s σ H x y v u Q I rx ry h;obtain⟨a,b,ys,rfl,rfl,ha,hb,q⟩:=h;cases rx;cases ry;obtain⟨ab,r1,p1,_⟩:=I.tuple ha;obtain⟨its2,r2,p2,_⟩:=I.tuple hb;cases r1;obtain⟨⟨cls,dd,data,sl⟩,ho,hc,n,hd⟩:=id p1;obtain⟨⟨cls2,dd2,data2,sl2⟩,ho2,hc2,n2,hd2⟩:=id p2;simp only at hc hd hc2 hd2;subst hc hd hc2 hd2;exact Wy #[_,ho,rfl] #[_,ho2,rfl] Rz Vq Me Lv (Lj _ _)
   (tuple_addW0 a b _ _ n n2 dd dd2 sl sl2 (by simp)) #[ho,ho2,#[.ref b,H,I,rfl,q]]
def aF4{x:V}(h:rO x=true):eqV x x=true:=by
 cases x<;>first|rfl|exact Ac0 _|(exact(Ar h).elim)
def rZ(e:Nat->Bool)(n:Nat):(Bq (n+1)).all e=(e 0 && (Bq n).all λj=>e (j+1)):=by
 rw[List.range_succ_eq_map,Zf,List.all_map];rfl
section
variable {X:Cx}{aa:#v[6]}{σ:St}{H:Hp}{s:Shared}{A:Cm}
end
theorem pQ(env:Env):∀(names:List (Str×Kd))(af:List (Str×Addr)),(∀y∈names,y.2=.free->∃c,env.cells.lookup y.1=some c)->(∀x c,af.lookup x=some c->env.cells.lookup x=some c)->
  ∃cl,(forIn names af (λ(x:Str×Kd)(cs:List (Str×Addr))=>(if(x.2==Ee)=true then(do let a<-cellOf env x.1;pure (Jl ((x.1,a)::cs)):Sem _)else pure (Jl cs))):Sem (List (Str×Addr)))=pure cl/\
   (∀x c,cl.lookup x=some c->env.cells.lookup x=some c)/\(∀x,(∃c,af.lookup x=some c)∨(x,Ee)∈names->∃c,cl.lookup x=some c)
 | [],af,_,h2=>#[af,rfl,h2,λx hx=>hx.elim id λz=>(by cases z)]
 |(n,k)::r,af,h1,h2=>by
  by_cases hk:k=.free
  ·subst hk;obtain⟨c,hc⟩:=h1 (n,.free) Ah rfl;obtain⟨cl,e,a,b⟩:=pQ env r ((n,c)::af) (λy hy=>h1 y (Af _ hy)) (λx c' hx=>by
    cases hxn:x==n with
    |true=>
     simp only[Bu,hxn]at hx;have:x=n:=Ab8 hxn;subst this;cases hx;exact hc
    |false=>
     simp only[Bu,hxn]at hx;exact h2 x c' hx)
   refine#[cl,?_,a,λx hx=>b x ?_]
   ·rw[<-e,Ie];have ec:cellOf env n=pure c:=by unfold cellOf;rw[hc]
    simp only[Ac0,Ac2,ec];rfl
   ·rcases hx with ⟨c',hx⟩|hx
    ·refine .inl ?_;cases hxn:x==n with
     |true=>exact#[c,by simp only[Bu,hxn]]
     |false=>exact#[c',by simp only[Bu,hxn];exact hx]
    ·rcases Ax.mp hx with z|z
     ·cases z;exact .inl #[c,by simp[Bu]]
     ·exact .inr z
  ·obtain⟨cl,e,a,b⟩:=pQ env r af (λy hy=>h1 y (Af _ hy)) h2;refine#[cl,?_,a,λx hx=>b x ?_]
   ·rw[<-e,Ie];have hb:(k==Ee)=false:=by simpa using hk
    simp only[hb,Dg,Ac1];rfl
   ·rcases hx with hx|hx
    ·exact .inl hx
    ·rcases Ax.mp hx with z|z
     ·cases z;exact Ab2 rfl hk
     ·exact .inr z
def aIl{X:Cx}(hcell:HC X)(kind:scope.kind=.function)(nocell:∀y∈scope.names,y.2≠.cell)
  (names:∀y∈scope.names,y.2=.local->scope.names.lookup y.1=some .local) (free:∀y∈scope.names,y.2=.free->X.env.scope.names.lookup y.1=some .cell)
  (hcap:∀p∈cap,X.N[p.2]? =some p.1/\scope.names.lookup p.1=some .free/\X.env.scope.names.lookup p.1=some .cell):∃cl,cZ X scope cap cl:=by
 obtain⟨cl,e,a,b⟩:=pQ X.env scope.names [] (λy hy hf=>hcell _ (free y hy hf)) (λx c h=>by simp at h);refine#[cl,?_,kind,nocell,names,a,λx hx=>b x (.inr (Dj hx)),hcap];unfold Ra;refine Abc ?_ e;simp only[bind_pure]
def Itz(K:Ad)(a b:Addr):It:=
 ⟨λi H=>∃xs ys x y,SqT K H a xs/\SqL K H b ys/\xs[i]? =some x/\ys[i]? =some y,λi H v H'=>∃p x y,H p=none/\v=.ref p/\H'=upd H p (.tup [x,y])/\(∀xs,SqT K H a xs->xs[i]? =some x)/\∀ys,SqL K H b ys->ys[i]? =some y,
  λi H=>∃xs,SqT K H a xs/\xs.length<=i⟩
def aRr{P:An}{w:Bh}{K:Ad}{es:List Cr}{a b z TI TO i1 i2:Addr}(D:Qc z TI TO i1 i2 a b):
  Turn P w K (.Tuple es k pos) (Itz K a b) [z,TI,TO,i1,i2] z (λi h=>aN1 h z TI TO i1 i2 a b i .none) where
 mem:=by simp
 obj:=λi h st c hc=>by
  obtain⟨hz,hTI,⟨x,y,hTO⟩,⟨o1,e1,c1,d1⟩,⟨o2,e2,c2,d2⟩⟩:=st;simp only[Ax,Cq,or_false]at hc;rcases hc with rfl|rfl|rfl|rfl|rfl
  ·exact⟨_,hz,λv q=>by
    have q':Vj _=Qu v:=q;cases q'⟩
  ·exact⟨_,hTI,λv q=>by
    have q':Zo _ _=Qu v:=q;cases q'⟩
  ·exact⟨_,hTO,λv q=>by
    have q':Zo _ _=Qu v:=q;cases q'⟩
  ·exact#[o1,e1,λv q=>by rw[d1]at q;cases q]
  ·exact#[o2,e2,λv q=>by rw[d2]at q;cases q]
 keep:=λi h h' st k=>by
  obtain⟨hz,hTI,⟨x,y,hTO⟩,h1,h2⟩:=st;exact#[k z (by simp) _ hz,k TI (by simp) _ hTI,#[x,y,k TO (by simp) _ hTO],h1.at λo e=>k i1 (by simp) o e,h2.at λo e=>k i2 (by simp) o e]
 item:=by
  intro X hP hw hK hc i aa s σ H E I hf st hg;subst hP hw hK;obtain⟨xs,ys,x,y,hq1,hq2,hx,hy⟩:=hg;obtain⟨its1,rv1,p1,hz1⟩:=I.tuple hq1;obtain⟨its2,rv2,p2,hz2⟩:=I.list hq2;obtain⟨u1,hu1,ru1⟩:=rv1.get hx;obtain⟨u2,hu2,ru2⟩:=rv2.get hy;refine aNl D st p1 p2.isList (x:=u1) (y:=u2) (by simpa using hu1) (by simpa using hu2) λh' st' ht hsz hk=>?_;obtain⟨hz',hTI',⟨a',b',hTO'⟩,h1',h2'⟩:=st';refine#[_,rfl,wpAny_letOwnedTupleGo_zip hz' λh'' hz'' hs''=>?_];have hT:H #v[0]=none:=I.hok.fresh (Ak _);obtain⟨sz,sTI,⟨_,_,sTO⟩,⟨so1,s1,_⟩,⟨so2,s2,_⟩⟩:=st;have lz:=Aw sz;have nz:z≠#v[0]:=Bc lz;have nTO:TO≠#v[0]:=Bc (Aw sTO);have nTI:TI≠#v[0]:=Bc (Aw sTI);have n1:i1≠#v[0]:=Bc (Aw s1);have n2:i2≠#v[0]:=Bc (Aw s2);have keep:∀c o,c≠z->c≠TO->c≠i1->c≠i2->s.heap.get? c=some o->h''.get? c=some o:=λc o c1 c2 c3 c4 e=>(hs''.2 c c1).trans (hk c o c1 c2 c3 c4 e);have keepc:∀c o,c∉[z,TI,TO,i1,i2]->s.heap.get? c=some o->h''.get? c=some o:=λc o hc e=>keep c o (λq=>hc (by simp[q])) (λq=>hc (by simp[q])) (λq=>hc (by simp[q])) (λq=>hc (by simp[q])) e;have tup:=(hs''.2 _ (Dc nz)).trans ht;have fz:=hf z (by simp);have fTI:=hf TI (by simp);have fTO:=hf TO (by simp);have f1:=hf i1 (by simp);have f2:=hf i2 (by simp);have nf:∀c u,H c=some u->c≠z/\c≠TO/\c≠i1/\c≠i2:=λc u q=>#[λe=>(by rw[e,fz.1]at q;cases q),λe=>(by rw[e,fTO.1]at q;cases q),λe=>(by rw[e,f1.1]at q;cases q),λe=>(by rw[e,f2.1]at q;cases q)];have nT:∀c u,H c=some u->c≠#v[0]:=λc u q=>aR q hT;refine⟨.ref #v[0],upd H #v[0] (.tup [x,y]),?_,rfl,#[_,x,y,hT,rfl,rfl,λzs hz=>(by rw[I.tuple_inj hz hq1];exact hx),λzs hz=>(by rw[I.list_inj hz hq2];exact hy)],
   #[hz'',(hs''.2 _ D.TIz).trans hTI',#[_,_,(hs''.2 _ D.TOz).trans hTO'],h1'.at λo e=>(hs''.2 _ D.i1z).trans e,h2'.at λo e=>(hs''.2 _ D.i2z).trans e],λc hc=>?_⟩
  ·show Inv X aa σ (upd H #v[0] (.tup [x,y])) {s with heap:=h'',gens:=s.gens,drawn:=s.drawn,toks:=s.toks};refine Inv.step (s:=s) (h':=h'') (t':=s.toks) (g':=s.gens) (d':=s.drawn) (ch:=[z,TI,TO,i1,i2]) I (λc hc=>?_) (λc o _ _ hc' q _=>keepc c o hc' q) (λc o _ _ hc' q _=>#[o.slots,keepc c o hc' q]) (λc o _ q n=>by rw[aN (Bc (Aw q))];exact n)
    (λc o hc' q=>#[o,keepc c o hc' q]) (λc ys q=>by rw[aN (nT c _ q)];exact q) (λc o' ys q=>by rw[aN (nT c _ q)];exact q) (λc ps q=>#[(List.toArray []),by rw[aN (nT c _ q),q];simp]) (λm hm=>?_) (λc ob q=>?_) I.bare
   ·have:=hf c hc;exact#[this.2.2.2.1,this.2.1,this.2.2.2.2.1,this.2.2.2.2.2]
   ·obtain⟨o,es,ep,ho,r⟩:=hm;exact#[o,es,ep,keep _ o (Dc fz.2.1) (Dc fTO.2.1) (Dc f1.2.1) (Dc f2.2.1) ho,r]
   ·by_cases hb:c=#v[0]
    ·subst hb;rw[aP]at q;cases q;exact#[show 2<=sizeLine by decide,[u1,u2],.cons ru1 (.cons ru2 .nil),#[_,tup,rfl,_,rfl]]
    ·rw[aN hb]at q;refine(I.hok c ob q).stay (λd w' hc' q'=>?_) (λd q'=>by rw[aN (nT d _ q')];exact q') (λd ys q'=>by rw[aN (nT d _ q')];exact q');have hne:d≠z/\d≠TO/\d≠i1/\d≠i2:=by
      rcases hc' with rfl|hc'
      ·exact nf _ _ q
      ·exact nf _ _ hc'
     exact keep d w' hne.1 hne.2.1 hne.2.2.1 hne.2.2.2 q'
  ·simp only[Ax,Cq,or_false]at hc;rcases hc with rfl|rfl|rfl|rfl|rfl
   ·rw[aN nz];exact fz.1
   ·rw[aN nTI];exact fTI.1
   ·rw[aN nTO];exact fTO.1
   ·rw[aN n1];exact f1.1
   ·rw[aN n2];exact f2.1
 done:=by
  intro X hP hw hK hc i aa s σ H E I hf st hg;subst hP hw hK;obtain⟨xs,hq,hx⟩:=hg;obtain⟨ab,rv,p,hz⟩:=I.tuple hq;have hl:=rv.length;have fz:=hf z (by simp);have fTO:=hf TO (by simp);have f1:=hf i1 (by simp);have f2:=hf i2 (by simp);refine aSe (I.ok.hd hc) D st p (by simp;lia) λh' hk=>#[rfl,?_];have keepc:∀c o,c∉[z,TO,i1,i2]->s.heap.get? c=some o->h'.get? c=some o:=λc o hc e=>hk c o (λq=>hc (by simp[q])) (λq=>hc (by simp[q])) (λq=>hc (by simp[q])) (λq=>hc (by simp[q])) e;have nf:∀c u,H c=some u->c∉[z,TO,i1,i2]:=λc u q hc=>by
   simp only[Ax,Cq,or_false]at hc;rcases hc with rfl|rfl|rfl|rfl
   ·rw[fz.1]at q;cases q
   ·rw[fTO.1]at q;cases q
   ·rw[f1.1]at q;cases q
   ·rw[f2.1]at q;cases q
  show Inv X aa σ H {s with heap:=h',gens:=s.gens,drawn:=s.drawn,toks:=s.toks};refine Inv.step (s:=s) (h':=h') (t':=s.toks) (g':=s.gens) (d':=s.drawn) (ch:=[z,TO,i1,i2]) I (λc hc=>?_) (λc o _ _ hc' q _=>keepc c o hc' q) (λc o _ _ hc' q _=>#[o.slots,keepc c o hc' q]) (λ_ _ _ _ n=>n)
   (λc o hc' q=>#[o,keepc c o hc' q]) (λ_ _ q=>q) (λ_ _ _ q=>q) (λc ps q=>#[(List.toArray []),by rw[q];simp]) (λm hm=>?_) (λc ob q=>?_) I.bare
  ·have hc':c∈[z,TI,TO,i1,i2]:=by
    simp only[Ax,Cq,or_false]at hc⊢;rcases hc with h|h|h|h<;>simp[h]
   have:=hf c hc';exact#[this.2.2.2.1,this.2.1,this.2.2.2.2.1,this.2.2.2.2.2]
  ·obtain⟨o,es,ep,ho,r⟩:=hm;exact#[o,es,ep,hk _ o (Dc fz.2.1) (Dc fTO.2.1) (Dc f1.2.1) (Dc f2.2.1) ho,r]
  ·refine(I.hok c ob q).stay (λd w' hc' q'=>?_) (λ_ q'=>q') (λ_ _ q'=>q');refine keepc d w' ?_ q';rcases hc' with rfl|hc'
   ·exact nf _ _ q
   ·exact nf _ _ hc'
 self:=λ_ _ _ _ _ st h=>Aau st.z h
def bCq(K:Ad)(ta:TA):TI:=λσ H R=>ta σ H λvs H1=>∃a b,vs=[.ref a,.ref b]/\(∃xs,SqT K H1 a xs)/\(∃ys,SqL K H1 b ys)/\R (Itz K a b) H1
def aXz{es:List Cr}{a b:Cr}{p pos:Pos}(hg:Gl X "zip")(hm:X.mg "zip"=none)(ha:PA X [a,b] ta)(hs:#v[n]:=by rfl)(hs2:Ca [b] X.env=[(false,eval b X.env)]:=by rfl):
  PI X (.Tuple es k pos') (.Call (.Name "zip" p) [a,b] [] pos) (bCq X.K ta):=by
 intro aa s σ H R I h;refine Call_ (pB I hg hm (show Fg "zip"=some (.type "zip") by decide+kernel) (Eb (thn (ha pos aa s σ H _ I h) λus s1 ⟨vs,H1,I1,r1,q1⟩=>?_) (by rw[hs,hs2]) (by rw[hs2];rfl)));obtain⟨t,l,e,⟨xs,hq1⟩,⟨ys,hq2⟩,q⟩:=q1;subst e;obtain⟨u,w',rfl,ru,rw'⟩:=vals2 r1;cases ru;cases rw';obtain⟨its1,rv1,p1,_⟩:=I1.tuple hq1;obtain⟨its2,rv2,p2,_⟩:=I1.list hq2;refine aLu p1 p2.isList λh' st hk=>Aau st.z ?_;have I2:Inv X aa σ H1 {s1 with heap:=h'}:=I1.kept (t':=s1.toks) λb o e=>hk b o e;have lt:t<s1.heap.objs.size:=by obtain⟨o,e,_⟩:=p1;exact Aw e
 have ll:l<s1.heap.objs.size:=by obtain⟨o,e,_⟩:=p2.isList;exact Aw e
 have ne:∀{m n:Nat},m<n->m≠n:=λh=>Bc h;have D:Qc (s1.heap.objs.size+4) (s1.heap.objs.size+2) (s1.heap.objs.size+3) s1.heap.objs.size (s1.heap.objs.size+1) t l:=by
  have e:∀n:Nat,t≠s1.heap.objs.size+n:=λn=>ne (Bn lt (Dh _ _));have e':∀n:Nat,l≠s1.heap.objs.size+n:=λn=>ne (Bn ll (Dh _ _));refine#[?_,?_,?_,?_,?_,?_,?_,?_,?_,?_,e 4,e 3,e 0,e 1,e' 4,e' 3,e' 0,e' 1]<;>first|exact Bc ∅|exact Gm ∅
 refine#[s1.heap.objs.size+4,_,_,_,H1,rfl,I2,aRr D,st,λc hc=>?_,q];have hle:s1.heap.objs.size<=c:=by
  simp only[Ax,Cq,or_false]at hc;rcases hc with rfl|rfl|rfl|rfl|rfl
  ·exact Dh _ _
  ·exact Dh _ _
  ·exact Dh _ _
  ·exact Ak _
  ·exact Dh _ _
 exact I1.fpOk hle (I1.hok.fresh hle)
def iZ:dR X (.builtin "all") (λxs H Q=>∃(p:Addr)(bs:List Bool),xs=[.ref p]/\SqL X.K H p (bs.map V.bl)/\X.calm=true/\Q (.bl (bs.all id)) H):=by
 intro aa s σ H xs us Q I r h;obtain⟨p,bs,rfl,hq,hc,q⟩:=h;obtain⟨u,rfl,ru⟩:=vals1 r;cases ru;obtain⟨ab,rv,pl,hz⟩:=I.list hq;have hl:=rv.length;rw[Ab]at hl;refine call_all_walk (Kn pl.isList ?_);have hlt:p<#v[0]:=by obtain⟨o,e,_⟩:=pl.isList;exact Aw e
 have hne:p≠#v[0]:=Bc hlt;have hd:X.A.in1.handled=none:=I.ok.hd hc;refine#[#v[0],_,_,_,_,_,λi=>bs.getD i true,rfl,Rp hd #v[0] p hne ab.toArray,#[#[_,Au _ rfl,rfl,rfl],pl.isList.push _],λi v s' Q' E' hv hQ=>?_,λh' tk hk=>?_]
 ·have hv':ab[i]? =some v:=by simpa using hv
  have hi:i<ab.length:=(Ay.mp hv').1;have hi':i<bs.length:=by lia
  have e1:(bs.map V.bl)[i]? =some (V.bl bs[i]):=by simp[hi']
  obtain⟨u,hu,ru⟩:=rv.get e1;rw[hv']at hu;cases hu;have ru':v=Lu bs[i]:=ru;subst ru';have e2:bs.getD i true=bs[i]:=by simp[hi']
  have hQ':Q' (bs.getD i true) s':=hQ;rw[e2]at hQ';exact Ec hQ'
 ·refine#[.bl (bs.all id),H,?_,?_,q]
  ·exact I.kept (t':=tk) λb o e=>hk b o (by simp;exact Bc (Aw e)) (Ae _ e)
  ·show Lu _=Lu _;congr 1;have e:ab.toArray.size=bs.length:=by rw[Al];lia
   rw[e];have:∀l:List Bool,(Bq l.length).all (λi=>l.getD i true)=l.all id:=by
    intro l;induction l with
    |nil=>rfl
    |cons b l ih=>
     rw[Ao,rZ,Zf, <-ih];congr 1
   exact this bs
theorem vJ:∀{us:List Value}{ns:List Int},Nm us ns->Vals (ns.map V.int) us
 |_,_,.nil=> .nil
 |_,_,.cons i t r=> .cons #[t,rfl] (vJ r)
theorem aHn:∀{xs:List V}{us:List Value},xs.length=us.length->(∀(j:Nat) x u,xs[j]? =some x->us[j]? =some u->RelV x u)->Vals xs us
 | [],[],_,_=> .nil
 | [],_::_,h,_=>by simp at h
 |_::_,[],h,_=>by simp at h
 |x::xs,u::us,h,f=> .cons (f 0 x u rfl rfl) (aHn (by simpa using h) λj x' u' h1 h2=>f (j+1) x' u' (by simpa using h1) (by simpa using h2))
inductive aFf(K:Ad)(xs:List V)(H:Hp)(Q:VK):Prop
 |mk (p:Addr) (ns:List Int) (q0_:xs=[.ref p]) (q1_:SqL K H p (ns.map V.int)) (q2_:ns.length<64) (q3_:∀ms:List Int,ms.Perm ns->ms.Pairwise (·<=·)->∀l,H l=none->Q (.ref l) (upd H l (.lst (ms.map V.int)))):aFf K xs H Q
def aK7(K:Ad):List V->Hp->VK->Prop:=λxs H Q=>aFf K xs H Q
def yK:dR X (.builtin "sorted") (aK7 X.K):=by
 intro aa s σ H xs us Q I r h;obtain⟨p,ns,rfl,hq,h64,q⟩:=h;obtain⟨u,rfl,ru⟩:=vals1 r;cases ru;obtain⟨ab,rv,pl,hz⟩:=I.list hq;have hl:=rv.length;rw[Ab]at hl;refine sorted_ints pl.isList (intsAre_of rv) ∅ λout ms hi hp ho=>?_;obtain⟨e,he⟩:=sortedAll_at s.heap ab out;refine#[.ref (#v[0]+1),_,I.laid (t':=s.toks) (o:=.lst (ms.map V.int)) (λb o q=>sortedAll_old q) (Hq _) ?_,rfl,q ms hp ho _ (I.hok.fresh (Hq _))];refine#[?_,out.toList,e,vJ hi,by simpa using he];rw[Ab,hp.length_eq];have:(64:Nat)<=sizeLine:=by decide
 lia
theorem aA9(f:Nat->Int)(ns:List Int)(h:∀j,j<ns.length->f j=ns.getD j 0):∀n,n<=ns.length->preSum f n=(ns.take n).sum
 |0,_=>by simp[preSum]
 |n+1,hn=>by
  show preSum f n+f n=_;rw[aA9 f ns h n ∅,h n hn,Nx];have e:ns[n]? =some (ns.getD n 0):=by simp[show n<ns.length from hn]
  rw[e,Xq];simp
theorem yW:∀(ns:List Int)(b:Int),(∀n∈ns,0<=n/\n<=b)->0<=b->∀j,0<=(ns.take j).sum/\(ns.take j).sum<=ns.length*b
 | [],b,_,hb,j=>by simp
 |n::ns,b,h,hb,0=>by
  simp;exact Zh ∅ hb
 |n::ns,b,h,hb,j+1=>by
  have ih:=yW ns b (λm hm=>h m (Af _ hm)) hb j;have hn:=h n Ah;rw[List.take_succ_cons,Fj,Ao];have:((ns.length+1:Nat):Int)*b=ns.length*b+b:=by rw[Rg,Abr];simp
  rw[this]
  lia
inductive aVi(K:Ad)(xs:List V)(H:Hp)(Q:VK):Prop
 |mk (p:Addr) (ns:List Int) (q0_:xs=[.ref p]) (q1_:SqL K H p (ns.map V.int)) (q2_:ns.length<=1000) (q3_:(∀n∈ns,0<=n/\n<=1000)) (q4_:Q (.int ns.sum) H):aVi K xs H Q
def bBa(K:Ad):List V->Hp->VK->Prop:=λxs H Q=>aVi K xs H Q
def vQ(hc:X.calm=true):dR X (.builtin "sum") (bBa X.K):=by
 intro aa s σ H xs us Q I r h;obtain⟨p,ns,rfl,hq,hln,hb,q⟩:=h;obtain⟨u,rfl,ru⟩:=vals1 r;cases ru;obtain⟨ab,rv,pl,hz⟩:=I.list hq;have hi:Nm ab ns:=intsAre_of rv;obtain⟨ys,e⟩:=hi.allInts.items;have hns:ns=ys.toList.map (·.1):=by
  rw[<-hi.numsOf, <-Vr, <-e]
 have hsz:ys.size=ns.length:=by rw[hns,Ab,Az]
 have hl:=pl.isList;rw[e]at hl;have hat:∀j,j<ns.length->numAt ys j=ns.getD j 0:=λj hj=>by
  rw[Vs,hns]
 have hps:∀n,n<=ns.length->preSum (numAt ys) n=(ns.take n).sum:=aA9 _ _ hat;have hsum:=yW ns 1000 hb ⋯;have hbig:(ns.length:Int)*1000<=1000000:=by lia
 refine sum_intList (I.ok.hd hc) hl (λj hj=>#[?_,?_]) λh' tk t' hk=>?_
 ·have hj':j<ns.length:=by lia
  rw[hat j hj'];have:=hb (ns.getD j 0) (by simp[hj']);exact#[∅,∅]
 ·rw[hps (j+1) ∅];have:=hsum (j+1);exact#[∅,∅]
 ·refine#[.int _,H,I.kept (t':=tk) hk,#[t',rfl],?_];rw[hsz,hps _ (Ak _),Ml];exact q
def aFx:dR X (.type "range") (λxs H Q=>∃n:Nat,xs=[.int (n:Int)]/\∀r,H r=none->Q (.ref r) (upd H r (.rng 0 n))):=by
 intro aa s σ H xs us Q I r h;obtain⟨n,rfl,q⟩:=h;obtain⟨u,rfl,t,rfl⟩:=vals1 r;refine call_range_1 #[.ref #v[0],_,I.laid (t':=s.toks+1+1) (o:=.rng 0 n) (λb o e=>Ae _ e) (Ak _) ?_,rfl,q _ (I.hok.fresh (Ak _))];exact#[_,_,_,Au _ rfl]
def aIj(hc:X.calm=true):dR X (.type "list") (λxs H Q=>∃(p:Addr)(n:Nat),xs=[.ref p]/\H p=some (.rng 0 n)/\n<=1000/\∀l,H l=none->Q (.ref l) (upd H l (.lst ((Bq n).map λk:Nat=>V.int (k:Int))))):=by
 intro aa s σ H xs us Q I r h;obtain⟨p,n,rfl,ha,hn,q⟩:=h;obtain⟨u,rfl,ru⟩:=vals1 r;cases ru;obtain⟨t,u,v,e⟩:=I.hok p _ ha;have hrs:Pc 0 (n:Int) 1=n:=by rw[rangeSize_one];split<;>lia
 refine call_list_range (I.ok.hd hc) e (small_one ∅ ∅ ∅ ∅) hrs ∅ λh' tk acc' c' hk hS hacc=>?_;have hs:sizeLine=16777216:=Es;refine#[.ref #v[0],_,I.laid (t':=tk) (o:=.lst ((Bq n).map λk:Nat=>V.int (k:Int))) hk (Ak _) #[by rw[Ab,Dm];lia,acc'.toList,c',?_,by simpa using hS],rfl,q _ (I.hok.fresh (Ak _))];refine aHn (by rw[Ab,Dm,Az];exact hacc.1.symm) λj x u h1 h2=>?_;obtain⟨t2,rfl⟩:=hacc.2 j u (by rw[<-De];exact h2);have hj:j<n:=by
  have:=(Ay.mp h1).1;simpa using this
 rw[Bg,Vg hj]at h1;cases h1;exact#[t2,by congr 1;lia]
def aO0(h:k<=sizeLine):¬(!Hu (k:Int))=true:=by
 have e:=Es;have h1:(k:Int)<9223372036854775808:=by lia
 have h2: -(9223372036854775808:Int)<=(k:Int):=by lia
 simp[Hu,h1,h2]
section
variable {X:Cx}{aa:#v[6]}{σ:St}{H:Hp}{s:Shared}{d:Addr}{kvs:List (Key×V)}{o:Obj}
end
variable {o:Cr}{tg:Cr}{te:TE}{apos cpos:Pos}
section
variable {as:List Addr}{b:Bool}
variable {prog:An}{w:Bh}{A:Cm}{E:#v[5]}{s:Shared}
abbrev tU(g:Heap)(z TI TO T:Addr)(b:Bool):Prop:=
 g.get? z=some {cls:=.type "zip",dict:=none,data:=.fields (List.toArray [Ka T,.bool b,.bool false,.ref TI,.ref TO]),slots:= (List.toArray [])}
def aCt{z TI TO T:Addr}{Q:Bool->Shared->Prop}(Z:tU s.heap z TI TO T b)(hT:s.heap.get? T=some oT)
  (q:∀h',tU h' z TI TO T true->Eo z s.heap h'->Q false {s with heap:=h'}):
  Bb #v[b] A (Cj (.ref z)) Q E s:=by
 unfold Cj;refine Aa (Du Z rfl (x:=Ka T) rfl ?_);show Bb _ _ (loadIfAlive T>>=_) _ _ _;refine Aa (PySem.W.kdx_alive hT ?_);refine Aa (Du Z rfl (x:=.bool b) rfl ?_);cases b with
 |true=>exact Ac (q s.heap Z #[rfl,λ_ _=>rfl])
 |false=>exact Aa (Im Z (by simp) λg Zg eg=>Ac (q g Zg eg))
def aL5{z TI TO i1 i2 l1 l2 T:Addr}{k1 k2:Nat}{x y:Value}(D:Qc z TI TO i1 i2 l1 l2)
  (Z:tU s.heap z TI TO T b) (hT:s.heap.get? T=some oT) (hI:IsPair s.heap TI (.ref i1) (.ref i2))
  (h1:s.heap.IsListIter i1 l1 k1) (h2:s.heap.IsListIter i2 l2 k2) (hl1:s.heap.IsList l1 xs) (hl2:s.heap.IsList l2 ys) (hx:xs[k1]? =some x) (hy:ys[k2]? =some y)
  (q:∀h',tU h' z TI TO T true->h'.IsListIter i1 l1 (k1+1)->h'.IsListIter i2 l2 (k2+1)->IsPair h' #v[0] x y->h'.objs.size=#v[0]+1->
   (∀c o,c≠z->c≠i1->c≠i2->s.heap.get? c=some o->h'.get? c=some o)->Q (some (.ref #v[0])) {s with heap:=h'}):
  Bb #v[b] A (Gv (.ref z)) Q E s:=by
 have ty:s.TypeIs (.ref z) "zip":=#[_,Z,rfl];unfold Gv;refine Aa (Hw (Cw (name:=Eh "__next__") ty Hl (Bw Hl ty Na ?_ (Mp _))));show Bb _ _ (field (.ref z) 2>>=_) _ _ _;refine Aa (Du Z rfl (x:=.bool false) rfl ?_);show Bb _ _ (field (.ref z) 3>>=_) _ _ _;refine Aa (Du Z rfl (x:=.ref TI) rfl ?_);refine Aa (Di hI rfl ?_);show Bb _ _ (Cj (.ref z)>>=_) _ _ _;refine Aa (aCt Z hT λg1 Z1 e1=>?_)
 ac_rfl
 refine Aa ?_;simp only[Vz,Ie,Ke];refine Aa (Aa (Ce ?_));show Bb _ _ (Cy (.ref i1)>>=_) _ _ _;refine Aa (Nu (h1.extBut e1.extBut D.i1z) (hl1.extBut e1.extBut D.l1z) hx λg2 j1 e2=>Ac ?_);refine Ac ?_;refine Aa (Aa (Ce ?_));show Bb _ _ (Cy (.ref i2)>>=_) _ _ _;refine Aa (Nu ((h2.extBut e1.extBut D.i2z).extBut e2.extBut D.i12.symm) ((hl2.extBut e1.extBut D.l2z).extBut e2.extBut D.l2i1) hy λg3 j2 e3=>Ac ?_);refine Ac (Ac ?_);refine Aa (Ud ?_ (show 2<=sizeLine by decide));refine Ac #[_,rfl,Ac ?_];have sz:g3.objs.size=#v[0]:=by rw[e3.1,e2.1,e1.1]
 have kp:∀c o,c≠z->c≠i1->c≠i2->s.heap.get? c=some o->g3.get? c=some o:=λc o n1 n2 n3 e=>e3.extBut _ _ n3 (e2.extBut _ _ n2 (e1.extBut _ _ n1 e));show Q (some (.ref g3.objs.size)) _;rw[sz];refine q _ (Ae _ (e3.extBut _ _ D.i2z.symm (e2.extBut _ _ D.i1z.symm Z1))) ((j1.extBut e3.extBut D.i12).at λo e=>Ae _ e) (j2.at λo e=>Ae _ e) ?_ (by rw[Df,sz]) λc o n1 n2 n3 e=>Ae _ (kp c o n1 n2 n3 e);rw[<-sz];exact Au _ rfl
def aPa{z TI TO i1 i2 l1 l2 T:Addr}{k1:Nat}{xs:Array Value}(hh:A.handled=none)(D:Qc z TI TO i1 i2 l1 l2)
  (Z:tU s.heap z TI TO T b) (hT:s.heap.get? T=some oT) (hI:IsPair s.heap TI (.ref i1) (.ref i2))
  (h1:s.heap.IsListIter i1 l1 k1) (hl1:s.heap.IsList l1 xs) (hx:xs[k1]? =none)
  (q:∀h',(∀c o,c≠z->c≠i1->s.heap.get? c=some o->h'.get? c=some o)->Q none {s with heap:=h'}):
  Bb #v[b] A (Gv (.ref z)) Q E s:=by
 have ty:s.TypeIs (.ref z) "zip":=#[_,Z,rfl];unfold Gv;refine Aa (Hw (Cw (name:=Eh "__next__") ty Hl (Bw Hl ty Na ?_ (Mp _))));show Bb _ _ (field (.ref z) 2>>=_) _ _ _;refine Aa (Du Z rfl (x:=.bool false) rfl ?_);show Bb _ _ (field (.ref z) 3>>=_) _ _ _;refine Aa (Du Z rfl (x:=.ref TI) rfl ?_);refine Aa (Di hI rfl ?_);show Bb _ _ (Cj (.ref z)>>=_) _ _ _;refine Aa (aCt Z hT λg1 Z1 e1=>?_)
 ac_rfl
 refine Aa ?_;simp only[Vz,Ie,Ke];refine Aa (Aa (Ce ?_));show Bb _ _ (Cy (.ref i1)>>=_) _ _ _;refine Aa (wpAny_nextOf_list_end hh (h1.extBut e1.extBut D.i1z) (hl1.extBut e1.extBut D.l1z) hx λg2 ex e2 he=>?_);obtain⟨o,ho,hc⟩:=he;refine Aa (Ez (T:="StopIteration") (b:=true) #[o,ho,hc] Mj ?_);exact Ac (q _ λc o n1 n2 e=>e2 c o n2 (e1.extBut _ _ n1 e))
structure aDi(h:Heap)(N l1 l2:Addr)(xs ys:Array Value)(i:Nat):Prop where
 ti:IsPair h (N+2) (.ref N) (.ref (N+1))
 h1:h.IsListIter N l1 i
 h2:h.IsListIter (N+1) l2 i
 a1:h.IsList l1 xs
 a2:h.IsList l2 ys
 z:(Yg h (N+4) (N+2) (N+3) .none/\∃a b,IsPair h (N+3) a b)∨∃T oT b,tU h (N+4) (N+2) (N+3) T b/\h.get? T=some oT/\N+5<T
def sX{a N:Nat}(h:a<N)(k:Nat):a≠N+k:=by lia
def aGo(u1:l1<N)(u2:l2<N):Qc (N+4) (N+2) (N+3) N (N+1) l1 l2:=by
 refine#[?_,?_,?_,?_,?_,?_,?_,?_,?_,?_,sX u1 4,sX u1 3,sX u1 0,sX u1 1,sX u2 4,sX u2 3,sX u2 0,sX u2 1]<;>first|exact Bc ∅|exact Gm ∅
def aDi.keep(x:aDi h N l1 l2 xs ys i)(u1:l1<N)(u2:l2<N)(k:∀b o,b≠N+5->h.get? b=some o->h'.get? b=some o):aDi h' N l1 l2 xs ys i:=by
 have n:∀{a b:Nat},a<b->a≠b:=λq=>Bc q;refine#[k _ _ (n ∅) x.ti,x.h1.at λo e=>k _ o (n ∅) e,x.h2.at λo e=>k _ o (n ∅) e,x.a1.at λo e=>k _ o (n ∅) e,x.a2.at λo e=>k _ o (n ∅) e,?_];rcases x.z with ⟨z,a,b,t⟩|⟨T,oT,b,z,t,lt⟩
 ·exact .inl #[k _ _ (n ∅) z,a,b,k _ _ (n ∅) t]
 ·exact .inr #[T,oT,b,k _ _ (n ∅) z,k _ _ (Gm lt) t,lt]
def aS0{x y:Value}(S:aDi s.heap N l1 l2 xs ys i)(u1:l1<N)(u2:l2<N)(hx:xs[i]? =some x)(hy:ys[i]? =some y)(hN:N+5<#v[0])
  (q:∀h',aDi h' N l1 l2 xs ys (i+1)->IsPair h' #v[0] x y->h'.objs.size=#v[0]+1->(∀c o,c<N∨N+5<=c->s.heap.get? c=some o->h'.get? c=some o)->Q (some (.ref #v[0])) {s with heap:=h'}):
  Bb #v[b] A (Gv (.ref (N+4))) Q E s:=by
 have D:=aGo u1 u2;have ne:∀{c:Nat}(k:Nat),k<5->c<N∨N+5<=c->c≠N+k:=λk hk h e=>by lia
 rcases S.z with ⟨Z,a,b,t⟩|⟨T,oT,b,Z,hT,lt⟩
 ·refine wpAny_pyNext_zip_item D Z S.ti t S.h1 S.h2 S.a1 S.a2 hx hy λh' e1 e2 e3 e4 e5 e6 kp=>?_;refine q h' #[kp _ _ D.TIz D.TITO D.TIi1 D.TIi2 S.ti,e3,e4,S.a1.at λo e=>kp _ o D.l1z D.l1TO D.l1i1 D.l1i2 e,S.a2.at λo e=>kp _ o D.l2z D.l2TO D.l2i1 D.l2i2 e,.inr #[_,_,false,e1,e5,hN]] e5 e6 λc o hc e=>?_;exact kp c o (ne 4 ⋯ hc) (ne 3 ⋯ hc) (ne 0 ⋯ hc) (ne 1 ⋯ hc) e
 ·refine aL5 D Z hT S.ti S.h1 S.h2 S.a1 S.a2 hx hy λh' e1 e3 e4 e5 e6 kp=>?_;have hTk:h'.get? T=some oT:=kp T oT (ne 4 ⋯ (.inr (Gn lt))) (ne 0 ⋯ (.inr (Gn lt))) (ne 1 ⋯ (.inr (Gn lt))) hT;refine q h' #[kp _ _ D.TIz D.TIi1 D.TIi2 S.ti,e3,e4,S.a1.at λo e=>kp _ o D.l1z D.l1i1 D.l1i2 e,S.a2.at λo e=>kp _ o D.l2z D.l2i1 D.l2i2 e,.inr #[_,_,true,e1,hTk,lt]] e5 e6 λc o hc e=>?_;exact kp c o (ne 4 ⋯ hc) (ne 0 ⋯ hc) (ne 1 ⋯ hc) e
def aSy(hh:A.handled=none)(S:aDi s.heap N l1 l2 xs ys i)(u1:l1<N)(u2:l2<N)(hx:xs[i]? =none)
  (q:∀h',(∀c o,c<N∨N+5<=c->s.heap.get? c=some o->h'.get? c=some o)->Q none {s with heap:=h'}):
  Bb #v[b] A (Gv (.ref (N+4))) Q E s:=by
 have D:=aGo u1 u2;have ne:∀{c:Nat}(k:Nat),k<5->c<N∨N+5<=c->c≠N+k:=λk hk h e=>by lia
 rcases S.z with ⟨Z,a,b,t⟩|⟨T,oT,b,Z,hT,lt⟩
 ·exact wpAny_pyNext_zip_end hh D Z S.ti t S.h1 S.h2 S.a1 S.a2 (.inl hx) λh' kp=>q h' λc o hc e=>kp c o (ne 4 ⋯ hc) (ne 3 ⋯ hc) (ne 0 ⋯ hc) (ne 1 ⋯ hc) e
 ·exact aPa hh D Z hT S.ti S.h1 S.a1 hx λh' kp=>q h' λc o hc e=>kp c o (ne 4 ⋯ hc) (ne 0 ⋯ hc) e
def aSf:On (.type "zip") "__len__"=pure none:=by rw[Lr,Jf];kernel_rfl
def aNm:On (.type "zip") "__length_hint__"=pure none:=by rw[Lr,Jf];kernel_rfl
structure zA(h:Heap)(N:Nat)(xs ys:Array Value)(as:List Addr):Prop where
 rise:as.Pairwise (·<·)
 high:∀a∈as,N+5<a
 prs:∀(j:Nat)(a:Addr),as[j]? =some a->∃x y,xs[j]? =some x/\ys[j]? =some y/\IsPair h a x y
def zA.up{N:Nat}(o:zA h N xs ys as)(k:∀c u,N+5<c->h.get? c=some u->h'.get? c=some u):zA h' N xs ys as:=
 #[o.rise,o.high,λj a e=>let⟨x,y,e1,e2,e3⟩:=o.prs j a e;#[x,y,e1,e2,k a _ (o.high a (Ai e)) e3]]
def zA.lt{h:Heap}{N:Nat}(o:zA h N xs ys as)(ha:a∈as):a<h.objs.size:=by
 obtain⟨j,hj⟩:=Cu.mp ha;obtain⟨_,_,_,_,e⟩:=o.prs j a hj;exact Aw e
def zA.more{N n:Nat}{x y:Value}(o:zA h N xs ys as)(k:∀c u,N+5<c->h.get? c=some u->h'.get? c=some u)(hn:h.objs.size=n)(hN:N+5<n)(hx:xs[as.length]? =some x)(hy:ys[as.length]? =some y)(t:IsPair h' n x y):zA h' N xs ys (as++[n]):=by
 refine#[Us.mpr #[o.rise,Mg _ _,λa ha b hb=>?_],λa ha=>?_,λj a e=>?_]
 ·rw[Ap.mp hb, <-hn];exact o.lt ha
 ·rcases Bd.mp ha with q|q
  ·exact o.high a q
  ·rw[Ap.mp q];exact hN
 ·rcases Iw j as.length with l|l|l
  ·rw[Dz l]at e;exact(o.up k).prs j a e
  ·subst l;have e':n=a:=by simpa using e
   subst e';exact#[x,y,hx,hy,t]
  ·rw[Gc (by rw[Am,Dw];lia)]at e;cases e
end
section
variable {prog:An}{w:Bh}{A:Cm}{s:Shared}{R:Qe->Shared->Prop}
def aS1(hh:A.handled=none)(u1:l1<N)(u2:l2<N)(hlen:xs.size<=ys.size)(hn:xs.size<=sizeLine)(res:Value){h₁:Heap}
  (hR:∀h' tk af c as,(∀b o,b<N->h₁.get? b=some o->h'.get? b=some o)->h'.get? (N+5)=some {cls:=.type "list",dict:=none,data:=.seq af c,slots:= (List.toArray [])}->as.length=xs.size->zA h' N xs ys as->af.toList=as.map As->R (.ok (.ret res)) {s with heap:=h',toks:=tk}):
  ∀(k:Nat)(h:Heap)(tk c:Nat)(af:Array Value)(as:List Addr),as.length+k=xs.size->aDi h N l1 l2 xs ys as.length->(∀b o,b<N->h₁.get? b=some o->h.get? b=some o)->
   h.get? (N+5)=some {cls:=.type "list",dict:=none,data:=.seq af c,slots:= (List.toArray [])}->af.toList=as.map As->zA h N xs ys as->
   Jn #v[b] A (.builtin "list.extend.loop" #[[.ref (N+5),.ref (N+4),res],[]]) R {s with heap:=h,toks:=tk}:=by
 intro k;induction k with
 |zero=>
  intro h tk c af as hk st kp hS hacc hO;refine Dq Qh ?_;rw[Ci Iv _];show Bb _ A.in1 (Gv (.ref (N+4))>>=_) _ _ _;refine Aa (aSy (s:={s with heap:=h,toks:=tk}) (A:=A.in1) hh st u1 u2 (by simp;lia) λh' e=>?_);exact Ac (hR h' tk af c as (λb o l q=>e b o (.inl l) (kp b o l q)) (e _ _ (.inr (Ak _)) hS) ∅ (hO.up λc u l q=>e c u (.inr (Gn l)) q) hacc)
 |succ k ih=>
  intro h tk c af as hk st kp hS hacc hO;have sz:af.size=as.length:=by rw[<-Az,hacc,Ab]
  have hN:N+5<h.objs.size:=Aw hS;have hx:xs[as.length]? =some (xs[as.length]'∅):=Bz _;have hy:ys[as.length]? =some (ys[as.length]'∅):=Bz _;refine Dq Qh ?_;rw[Ci Iv _];show Bb _ A.in1 (Gv (.ref (N+4))>>=_) _ _ _;refine Aa (aS0 (s:={s with heap:=h,toks:=tk}) st u1 u2 hx hy hN λh' st' t z e=>?_);dsimp only at t z e⊢;have hS':=e _ _ (.inr (Ak _)) hS;have up:∀b o,b≠N+5->h'.get? b=some o->(h'.update (N+5) (Ea (·.push (As h.objs.size)))).get? b=some o:=λb o hb q=>(Cp _ _ (Dc hb)).trans q;show Bb _ A.in1 (Mu (N+5) (·.push (As h.objs.size))>>=_) _ _ _;refine Aa ?_;refine Gu hS' rfl (Ac #[Fc Iv _,ih _ tk _ (af.push (As h.objs.size)) (as++[h.objs.size]) (by rw[Am,Dw];lia) ?_ (λb o l q=>up b o (Bc ∅) (e b o (.inl l) (kp b o l q))) (Bt _ hS' rfl) (by rw[Wg,hacc,Co];rfl) ?_]) (by rw[sz];lia) (by show(af.push (As h.objs.size)).size<=sizeLine+1;rw[Array.size_push,sz];lia)
  ·rw[Am,Dw];exact st'.keep u1 u2 up
  ·exact hO.more (λc u l q=>up c u (Gm l) (e c u (.inr (Gn l)) q)) rfl hN hx hy (up _ _ (Gm hN) t)
def aSz(hh:A.handled=none)(u1:l1<N)(u2:l2<N)(hlen:xs.size<=ys.size)(hn:xs.size<=sizeLine)(res:Value){c₀:Nat}(st:aDi s.heap N l1 l2 xs ys 0)(hS:s.heap.get? (N+5)=some {cls:=.type "list",data:=.seq (List.toArray []) c₀})
  (hR:∀h' tk af c as,(∀b o,b<N->s.heap.get? b=some o->h'.get? b=some o)->h'.get? (N+5)=some {cls:=.type "list",dict:=none,data:=.seq af c,slots:= (List.toArray [])}->as.length=xs.size->zA h' N xs ys as->af.toList=as.map As->R (.ok (.ret res)) {s with heap:=h',toks:=tk}):
  Bb #v[b] A.in1 (Ew (.ref (N+5)) (.ref (N+4)) res)
   (λfin s'=>match fin with|.done f=>R (.ok f) s'|.again c'=>c'.quiet=true/\Jn #v[b] A c' R s') (λe s'=>R (.error e) s') s:=by
 have ne54:N+5≠N+4:=by lia
 have ty:s.TypeIs (.ref (N+4)) "zip":=by
  rcases st.z with ⟨z,_⟩|⟨_,_,_,z,_⟩<;>exact#[_,z,rfl]
 have slf:∀Q:#v[5],Q (.ref (N+4)) s->Bb #v[b] A.in1 (Uy (.ref (N+4))) Q (λe s'=>R (.error e) s') s:=λQ q=>by
  refine Km ty Aam (Bw Aam ty F.entry_zip_iter ?_ (F.args_zip_iter_1 _));show Bb _ _ (ret (.ref (N+4))) _ _ s;exact Ac #[_,rfl,"zip",_,ty,F.slot_zip_next.lookup,q]
 unfold Ew;refine Aa (Jb ty ?_);have q1:Il (.ref (N+5)) (.ref (N+4))=false:=by simp[Il]
 have q2:(Hr "zip"==Hr "list")=false:=by decide
 have q3:(Hr "zip"==Hr "tuple")=false:=by decide
 simp only[q1,q2,q3,Zq,Dg,Ac1];refine Aa (slf _ ?_);refine Aa (Ce ?_);unfold Oc;refine Aa (Ex ty aSf ?_);show Bb _ A.in1 (specialOf (As (N+4)) (Eh "__length_hint__")>>=_) _ _ _;refine Aa (Ex ty aNm ?_);refine Ac ?_;show Bb _ A.in1 (rule "list.extend.makes-room">>=λ_=>Pl (.ref (N+5))>>=λ_=>again (.builtin "list.extend.loop" #[[.ref (N+5),.ref (N+4),res],[]])) _ _ _;refine Aa (Jj ?_);refine Aa ?_;show Bb _ A.in1 (Mu (N+5) (·.push .none)>>=λ_=>Mu (N+5) (·.pop)) _ _ _;refine Aa (Gu hS rfl ?_);have hS2:=Bt (Ea (·.push Cb)) hS rfl;refine Gu (hz:=by seq_fits) hS2 rfl ?_;have hS3:=Bt (Ea (·.pop)) hS2 rfl;have up:∀b o,b≠N+5->s.heap.get? b=some o->((s.heap.update (N+5) (Ea (·.push Cb))).update (N+5) (Ea (·.pop))).get? b=some o:=λb o hb e=>(Cp _ _ (Dc hb)).trans ((Cp _ _ (Dc hb)).trans e);refine Ac #[Fc Iv _,?_];exact aS1 (s:=s) (h₁:=s.heap) hh u1 u2 hlen hn res hR xs.size _ s.toks _ (List.toArray []) [] (Kf _) (st.keep u1 u2 up) (λb o l e=>up b o (Bc ∅) e) hS3 rfl #[.nil,(λ_ h=>nomatch h),(λj a e=>by simp at e)]
def aSx{Q:#v[5]}(hh:A.handled=none)(u1:l1<N)(u2:l2<N)(hlen:xs.size<=ys.size)(hn:xs.size<=sizeLine)(st:aDi s.heap N l1 l2 xs ys 0)(hsz:#v[0]=N+5)
  (q:∀h' tk af c as,(∀b o,b<N->s.heap.get? b=some o->h'.get? b=some o)->h'.get? (N+5)=some {cls:=.type "list",dict:=none,data:=.seq af c,slots:= (List.toArray [])}->as.length=xs.size->zA h' N xs ys as->af.toList=as.map As->Q (.ref (N+5)) {s with heap:=h',toks:=tk}):
  Bb #v[b] A (call (.type "list") [.ref (N+4)]) Q E s:=by
 refine Uh (Q₁:=λobj s₁=>obj=.ref #v[0]/\s₁={s with heap:=s.heap.push {cls:=.type "list",data:=.seq (List.toArray [])}}) PySem.F.called_list (PySem.F.typeCall_list_1 _) PySem.F.entry_list_init (code_list_new _ #[rfl,rfl]) λobj s₁ h₁=>?_;obtain⟨rfl,rfl⟩:=h₁;have hS:(s.heap.push {cls:=.type "list",data:=.seq (List.toArray [])}).get? #v[0]=some {cls:=.type "list",data:=.seq (List.toArray [])}:=Au _ rfl;refine#[#[_,hS,rfl],PySem.F.args_list_init_2 _ _,?_];rw[hsz]at hS⊢;show Bb _ _ (do let old<-Pm (.ref (N+5));Abe (.ref (N+5)) (λ_=> (List.toArray []));letGo old.toList.reverse;Ew (.ref (N+5)) (.ref (N+4)) .none) _ _ _;refine Aa ?_;unfold Pm;refine Aa (Di hS rfl (Ac ?_));show Bb _ _ (Mu (N+5) (λ_=> (List.toArray []))>>=λ_=>letGo ((List.toArray []):Array Value).toList.reverse>>=λ_=>Ew (.ref (N+5)) (.ref (N+4)) .none) _ _ _;refine Aa (Gu hS rfl ?_);have hS2:=Bt (Ea (λ_=>((List.toArray []):Array Value))) hS rfl;have up:∀b o,b≠N+5->s.heap.get? b=some o->((s.heap.push {cls:=.type "list",data:=.seq (List.toArray [])}).update (N+5) (Ea (λ_=>((List.toArray []):Array Value)))).get? b=some o:=λb o hb e=>(Cp _ _ (Dc hb)).trans (Ae _ e);refine Aa (Lq ?_);refine aSz (A:=A.in1) hh u1 u2 hlen hn .none (st.keep u1 u2 up) hS2 λh' tk af c as kp hS' hl hO hacc=>?_;exact#[rfl,q h' tk af c as (λb o l e=>kp b o l (up b o (Bc ∅) e)) hS' hl hO hacc]
end
def aPg{aa:#v[6]}{σ:St}{h':Heap}(I:#v[3])(k:∀b u,s.heap.get? b=some u->h'.get? b=some u)(ex:∀c o,H c=some o->H' c=some o)(lo:∀c,c<#v[0]->H' c=H c)
  (new:∀c o,H c=none->H' c=some o->bO X.prog X.w H' h' c o):Inv X aa σ H' {s with heap:=h',toks:=t'}:=by
 refine I.un #[λb ob q _ _ _=>k b ob q,λb ob q _ _ _=>#[ob.slots,k b ob q],λb ob q n _=>by rw[lo b (Aw q)];exact n,λb ob q _=>#[ob,k b ob q],λb xs q=>ex b _ q,λb o u q=>ex b _ q,λb ps q=>#[(List.toArray []),by rw[ex b _ q];simp]] λc o e=>?_;cases g:H c with
 |none=>exact new c o g e
 |some o'=>
  have:=ex c o' g;rw[e]at this;cases this;exact(I.hok c o g).stay (λb u _ q=>k b u q) (λb q=>ex b _ q) λb xs q=>ex b _ q
structure aWr(H:Hp)(l:Addr)(xs ys:List V)(H':Hp)(as:List Addr):Prop where
 len:as.length=xs.length
 nd:as.Nodup
 fresh:∀a∈as,H a=none/\a≠l
 lf:H l=none
 lst:H' l=some (.lst (as.map V.ref))
 prs:∀(j:Nat)(a:Addr)(x y:V),as[j]? =some a->xs[j]? =some x->ys[j]? =some y->H' a=some (.tup [x,y])
 same:∀c,c≠l->c∉as->H' c=H c
def aQz(K:Ad)(ta:TA):TE:=λσ H Q=>ta σ H λvs H1=>∃a b xs ys,vs=[.ref a,.ref b]/\SqL K H1 a xs/\SqL K H1 b ys/\xs.length<=ys.length/\∀l H' as,aWr H1 l xs ys H' as->Q (.ref l) H'
theorem aHm:∀as:List Addr,Vals (as.map V.ref) (as.map As)
 | []=> .nil
 |a::r=> .cons rfl (aHm r)
def aGh{as:List Addr}(nd:as.Nodup){j:Nat}(e:as[j]? =some a):as.idxOf a=j:=by
 obtain⟨h1,h2⟩:=Ay.mp e;have h3:as.idxOf a<as.length:=List.idxOf_lt_length_iff.mpr (Ai e);have h4:as[as.idxOf a]=a:=List.getElem_idxOf h3;exact(Kk nd).mp (h4.trans h2.symm)
def aE9(H:Hp)(l:Addr)(xs ys:List V)(as:List Addr):Hp:=λc=>if c=l then some (.lst (as.map V.ref))else if c∈as then some (.tup [xs.getD (as.idxOf c) (V.int 0),ys.getD (as.idxOf c) (V.int 0)])else H c
def aJf{a b:Cr}{p p2 pos pos2:Pos}(hcalm:X.calm=true)(hg:Gl X "list")(hm:X.mg "list"=none)(hg2:Gl X "zip")(hm2:X.mg "zip"=none)(ha:PA X [a,b] ta)(hs:#v[n]:=by rfl)(hs2:Ca [b] X.env=[(false,eval b X.env)]:=by rfl)
  (he:Ca [.Call (.Name "zip" p2) [a,b] [] pos2] X.env=[(false,eval (.Call (.Name "zip" p2) [a,b] [] pos2) X.env)]:=by rfl):
  PE X (.Call (.Name "list" p) [.Call (.Name "zip" p2) [a,b] [] pos2] [] pos) (aQz X.K ta):=by
 intro aa s σ H Q I h;refine Hc (pB I hg hm (show Fg "list"=some (.type "list") by decide+kernel) ?_);refine Eb ?_ he rfl;rw[he];show Bb _ _ (spliced [(false,eval (.Call (.Name "zip" p2) [a,b] [] pos2) X.env)]) _ _ s;refine Vk ?_;refine Hc (pB I hg2 hm2 (show Fg "zip"=some (.type "zip") by decide+kernel) ?_);refine Eb (thn (ha pos2 aa s σ H _ I h) λus s1 ⟨vs,H1,I1,r1,q1⟩=>?_) (by rw[hs,hs2]) (by rw[hs2];rfl);obtain⟨a1,b1,xs,ys,e,hq1,hq2,hlen,q⟩:=q1;subst e;obtain⟨u,w',rfl,ru,rw'⟩:=vals2 r1;cases ru;cases rw';obtain⟨its1,rv1,p1,z1⟩:=I1.list hq1;obtain⟨its2,rv2,p2',z2⟩:=I1.list hq2;have n1:=rv1.length;have n2:=rv2.length;have la:a1<s1.heap.objs.size:=by obtain⟨o,e,_⟩:=p1.isList;exact Aw e
 have lb:b1<s1.heap.objs.size:=by obtain⟨o,e,_⟩:=p2'.isList;exact Aw e
 refine call_zip_2 p1.isList p2'.isList λg hz hTI hTO hi1 hi2 hsz kp=>?_;refine Wd ?_;refine aSx (I1.ok.hd hcalm) la lb (by simp;lia) (by simp;lia) #[hTI,hi1,hi2,p1.isList.at λo e=>kp _ o e,p2'.isList.at λo e=>kp _ o e,.inl #[hz,_,_,hTO]] hsz λh' tk af c as kp' hS hl hO hacc=>?_;have big:∀a∈as,s1.heap.objs.size<=a:=λa m=>by
  have:=hO.high a m;exact Dd (Dh _ 5) (Gn this)
 have nd:as.Nodup:=hO.rise.imp λh=>Bc h;have hl':as.length=xs.length:=by rw[hl];simp;lia
 have nl:s1.heap.objs.size+5∉as:=λm=>Ab2 (hO.high _ m) (Ej _);have fr:∀a,s1.heap.objs.size<=a->H1 a=none:=λa m=>I1.hok.fresh m;refine#[.ref (s1.heap.objs.size+5),aE9 H1 (s1.heap.objs.size+5) xs ys as,?_,rfl,q _ _ as #[hl',nd,λa m=>#[fr a (big a m),λe=>nl (e▸m)],fr _ (Dh _ _),by simp[aE9],λj a x y e1 e2 e3=>?_,λc c1 c2=>by simp[aE9,c1,c2]]]
 ·refine aPg (s:=s1) (h':=h') (t':=tk) I1 (λb u e=>kp' b u (Aw e) (kp b u e)) (λc o e=>?_) (λc l=>?_) λc o e1 e2=>?_
  ·have c1:c≠s1.heap.objs.size+5:=λz=>by rw[z,fr _ (Dh _ _)]at e;cases e
   have c2:c∉as:=λm=>by rw[fr c (big c m)]at e;cases e
   simp[aE9,c1,c2,e]
  ·have c1:c≠s1.heap.objs.size+5:=Bc (Bn l (Dh _ _));have c2:c∉as:=λm=>Ab2 (Bn l (big c m)) (Ej _);simp[aE9,c1,c2]
  ·by_cases c1:c=s1.heap.objs.size+5
   ·subst c1;simp[aE9]at e2;subst e2;refine#[by rw[Ab];lia,af.toList,c,?_,by simpa using hS];rw[hacc];exact aHm as
   ·by_cases c2:c∈as
    ·simp[aE9,c1,c2]at e2;subst e2;obtain⟨j,hj⟩:=Cu.mp c2;have hjl:j<as.length:=(Ay.mp hj).1;obtain⟨u,v,e3,e4,e5⟩:=hO.prs j c hj;rw[aGh nd hj];obtain⟨u',f1,f2⟩:=rv1.get (show xs[j]? =some (xs.getD j (V.int 0)) by simp[show j<xs.length by lia]);obtain⟨v',f3,f4⟩:=rv2.get (show ys[j]? =some (ys.getD j (V.int 0)) by simp[show j<ys.length by lia]);have g1:u'=u:=by simpa[f1]using e3
     have g2:v'=v:=by simpa[f3]using e4
     subst g1 g2;exact#[show 2<=sizeLine by decide,[u',v'],.cons f2 (.cons f4 .nil),#[_,e5,rfl,_,rfl]]
    ·simp[aE9,c1,c2,e1]at e2
 ·have m:=Ai e1;have c1:a≠s1.heap.objs.size+5:=λz=>nl (z▸m);simp[aE9,c1,m,aGh nd e1,e2,e3]
section
variable {prog:An}{w:Bh}{A:Cm}{g:Bool}{num:Nat->Int}
def aKe(g:Bool)(x d:Value):Yw (cond g "max" "min") #[[x],[(Eh "default",d)]]:=by
 cases g<;>(unfold Yw;kernel_rfl)
def bt(g:Bool)(num:Nat->Int)(i j:Nat):Bool:=cond g (decide (num i>num j)) (decide (num i<num j))
def aZv{i j t:Nat}:bt g num j i=true->bt g num t i=false->bt g num t j=false:=by cases g<;>simp[bt]<;>lia
def aN3{i j t:Nat}(h:t<j+1)(a:bt g num j i=false)(b:t<j->bt g num t i=false):bt g num t i=false:=by
 by_cases e:t<j
 ·exact b e
 ·rw[show t=j by lia];exact a
def aKg(i:Nat):bt g num i i=false:=by cases g<;>simp[bt]
def aZt(g:Bool)(num:Nat->Int)(P:Nat->Value->Prop)(j:Nat):Option (Nat×Value)->Prop
 |none=>j=0
 |some (i,v)=>i<j/\P i v/\∀t,t<j->bt g num t i=false
def aSv(o:Option (Nat×Value)):Array Value:=match o with
 |none=> (List.toArray [])
 |some (_,v)=> (List.toArray [v,v])
def aQx:∀g:Bool,plainId (cond g "max.loop" "min.loop")=true:=by
 intro g;cases g
 ·exact Ri
 ·exact Rj
def aPj{It Bx:Addr}{fp wr:List Addr}{n:Nat}{P:Nat->Value->Prop}{St:Nat->Heap->Prop}{R:Qe->Shared->Prop}{d:Value}(W:Walks prog w A.in1 It fp wr n P St)(cm:CmpOf prog w A.in1 (cond g .Gt .Lt) P (bt g num))(apart:Bx∉fp):
  ∀(k j:Nat)(s:Shared)(o:Option (Nat×Value))(c:Nat),n=j+k->St j s.heap->aZt g num P j o->s.heap.get? Bx=some {cls:=.type "list",dict:=none,data:=.seq (aSv o) c,slots:= (List.toArray [])}->
   (∀v h' tk,(n=0/\v=d∨∃o',o'=some v/\∃i,aZt g num P n (some (i,v)))->(∀b ob,b∉wr->b≠Bx->s.heap.get? b=some ob->h'.get? b=some ob)->R (.ok (.ret v)) {s with heap:=h',toks:=tk})->
   Jn #v[b] A (.builtin (cond g "max.loop" "min.loop") #[[.ref It,.none,.ref Bx],[("default",d)]]) R s:=by
 intro k;induction k with
 |zero=>
  intro j s o c en at_ top hS fin;have outw:Bx∉wr:=λz=>apart (W.sub _ z);cases en;cases g
  all_goals dsimp only[cond]at*
  case' false=>
   refine Dq Zm ?_;rw[Ci Ri _]
  case' true=>
   refine Dq Zn ?_;rw[Ci Rj _]
  all_goals
   show Bb _ A.in1 (Qa (.ref Bx)>>=_) _ _ s;refine Aa (Di hS rfl ?_);show Bb _ A.in1 (tryCatch (Gv (.ref It)) _>>=_) _ _ s;refine Aa (Pe (W.done s _ _ at_ λh' tk kept=>?_));have hS2:=kept Bx _ outw hS;cases o with
   |none=>
    have z:j=0:=top;show Bb _ A.in1 (rule _>>=_) _ _ _;exact Aa (Jj (Ac (fin d h' tk (.inl #[z,rfl]) λb ob h1 _ h3=>kept b ob h1 h3)))
   |some q=>
    show Bb _ A.in1 (Mu Bx (λ_=> (List.toArray []))>>=_) _ _ _;refine Aa (Gu (hz:=by show 2<=sizeLine;decide) hS2 rfl (Aa (Lq (Ac (fin q.2 _ tk (.inr #[_,rfl,q.1,top]) λb ob h1 h2 h3=>?_)))));exact(Cp _ _ (Dc h2)).trans (kept b ob h1 h3)
 |succ k ih=>
  intro j s o c en at_ top hS fin;have outw:Bx∉wr:=λz=>apart (W.sub _ z);have more:j<n:=by lia
  have nm:(toString "max"++toString ".loop":String)="max.loop"/\(toString "min"++toString ".loop":String)="min.loop":=by decide
  have qt:=aQx g;cases g
  all_goals dsimp only[cond]at*
  case' false=>
   refine Dq Zm ?_;rw[Ci Ri _]
  case' true=>
   refine Dq Zn ?_;rw[Ci Rj _]
  all_goals
   show Bb _ A.in1 (Qa (.ref Bx)>>=_) _ _ s;refine Aa (Di hS rfl ?_);show Bb _ A.in1 (tryCatch (Gv (.ref It)) _>>=_) _ _ s;refine Aa (Pe (W.item j s _ _ more at_ λv h' tk pv at2 kept=>?_));have hS2:=kept Bx _ outw hS;have step:=λ(o2:Option (Nat×Value))(c2:Nat)(h2:Heap)(t2:Nat) top2 hS3(k2:∀b ob,b≠Bx->h'.get? b=some ob->h2.get? b=some ob)=>ih (j+1) {s with heap:=h2,toks:=t2} o2 c2 ∅ (W.frame _ _ _ at2 λb hb ob e=>k2 b ob (λz=>apart (z▸hb)) e) top2 hS3 λv3 h3 t3 r3 k3=>fin v3 h3 t3 r3 λb ob a1 a2 a3=>k3 b ob a1 a2 (k2 b ob a2 (kept b ob a1 a3));cases o with
   |none=>
    have z:j=0:=top;subst z;show Bb _ A.in1 (Mu Bx (λ_=> (List.toArray [v,v]))>>=_) _ _ _;refine Aa (Gu hS2 rfl ?_);simp only[nm];refine Ac #[Fc qt _,step (some (0,v)) _ _ _ #[Nat.one_pos,pv,λt ht=>?_] (Bt _ hS2 rfl) λb ob hb e=>(Cp _ _ (Dc hb)).trans e];obtain rfl:t=0:=by lia
    exact aKg _
   |some q=>
    obtain⟨i,vb⟩:=q;obtain⟨hi,pb,best⟩:=top;show Bb _ A.in1 (tryCatch (holding [v,v] (richCompare _ v vb>>=_)) _>>=_) _ _ _;refine Aa (Pe (Ce (Aa (cm j i v vb _ _ _ pv pb ?_))));refine Aa (Ce (Ec (Aa (Lq (Ac ?_)))));dsimp only;split<;>rename_i hb
    ·refine Aa (Gu (hz:=by show 2<=sizeLine;decide) hS2 rfl (Aa (Lq ?_)));simp only[nm];exact Ac #[Fc qt _,step (some (j,v)) _ _ _ #[Gy j,pv,λt ht=>aN3 ht (aKg _) λh=>aZv hb (best t h)] (Bt _ hS2 rfl) λb ob hb e=>(Cp _ _ (Dc hb)).trans e]
    ·refine Aa (Lq ?_);simp only[nm];exact Ac #[Fc qt _,step (some (i,vb)) _ _ _ #[∅,pb,λt ht=>aN3 ht (Wp.mpr hb) (best t)] hS2 λb ob _ e=>e]
end
def aNn(X:Cx)(f:Value)(ks:List Str)(r:List V->List V->Hp->VK->Prop):Prop:=
 ∀(aa:#v[6])(s:Shared)(σ:St)(H:Hp)(xs ys:List V)(us ws:List Value)(Q:VK),#v[3]->Vals xs us->Vals ys ws->r xs ys H Q->Bb #v[a] X.A (call f us (ks.zip ws)) (EP X aa σ Q) X.xe s
def bC1(r:List V->List V->Hp->VK->Prop)(t tk:TA):TE:=λσ H Q=>t σ H λxs H1=>tk σ H1 λys H2=>r xs ys H2 Q
def aC4{X:Cx}{x:Str}{id:String}{ks:List Str}{r:List V->List V->Hp->VK->Prop}{e:Cr}{es:List Cr}{kws:List Lw}{t tk:TA}{p pos:Pos}(hc:aNn X (.builtin id) ks r)(hg:Gl X x)(hm:X.mg x=none)(hv:Fg x=some (.builtin id))(ha:PA X (e::es) t)(hkw:PK X kws tk)
  (hall:(Gx pos (Ed kws X.env)).all (·.1.isSome)=true:=by rfl) (hks:(Gx pos (Ed kws X.env)).filterMap (·.1)=ks:=by rfl) (hn:x≠"__name__":=by decide) (hdb:ND x:=by decide)
  (he:SE X e es:=by rfl) (hpl:(Np pos (Ca (e::es) X.env)).any (·.1)=false:=by rfl) (hpk:(Gx pos (Ed kws X.env)).any (·.1.isNone)=false:=by rfl):PE X (.Call (.Name x p) (e::es) kws pos) (bC1 r t tk):=by
 intro aa s σ H Q I h;refine Hc (pB I hg hm hv ?_ hn hdb);refine Aa2 (thn (ha pos aa s σ H _ I h) λus s1 ⟨vs,H1,I1,r1,q1⟩=>?_) (by rw[he];rfl) hpl hall hpk;refine thn (hkw pos aa s1 σ H1 _ I1 q1) λws s2 ⟨zs,H2,I2,rz,q2⟩=>?_;rw[hks];exact hc aa s2 σ H2 vs zs us ws Q I2 r1 rz q2
inductive aZn(g:Bool)(K:Ad)(xs:List V)(ys:List V)(H:Hp)(Q:VK):Prop
 |mk (p ns d:_) (q0_:xs=[.ref p]) (q1_:ys=[d]) (q2_:SqL K H p (ns.map V.int)) (q3_:(ns=[]->Q d H)) (q4_:∀m:Int,m∈ns->(∀a∈ns,cond g (a<=m) (m<=a))->Q (.int m) H):aZn g K xs ys H Q
def rMD(g:Bool)(K:Ad):List V->List V->Hp->VK->Prop:=λxs ys H Q=>aZn g K xs ys H Q
def aKh{X:Cx}{g:Bool}(hc:X.calm=true):aNn X (.builtin (cond g "max" "min")) ["default"] (rMD g X.K):=by
 intro aa s σ H xs ys us ws Q I r rk h;obtain⟨p,ns,d,rfl,rfl,hq,q0,q1⟩:=h;obtain⟨u,rfl,ru⟩:=vals1 r;obtain⟨dv,rfl,rd⟩:=vals1 rk;cases ru;obtain⟨ab,rv,pl,hz⟩:=I.list hq;have hi:Nm ab ns:=intsAre_of rv;obtain⟨ys,e⟩:=hi.allInts.items;have hns:ns=ys.toList.map (·.1):=by rw[<-hi.numsOf, <-Vr, <-e]
 have hl:=pl.isList;rw[e]at hl;have nm:(toString "max"++toString ".loop":String)="max.loop"/\(toString "min"++toString ".loop":String)="min.loop":=by decide
 have qt:=aQx g;have bd:∀nm:String,Jv nm ["key","default"] 0 #[[],[(Eh "default",dv)]]=pure [none,some dv]:=λnm=>rfl;have tn:=@aPj X.prog X.w X.A g (numAt ys);have cm:CmpOf X.prog X.w X.A.in1 (cond g .Gt .Lt) (λi v=>(So ys)[i]? =some v) (bt g (numAt ys)):=by
  cases g
  ·exact CmpOf.ints_lt _ λ_ _=>Tj
  ·exact CmpOf.ints_gt _ λ_ _=>Tj
 cases g
 all_goals dsimp only[cond]at*
 case' false=>
  refine kmb_tree F.kind_min F.plain_min F.entry_min (aKe false _ _) ?_;show Bb _ X.A.in1 (Jv "min" ["key","default"] 0 #[[],[(Eh "default",dv)]]>>=_) _ _ s
 case' true=>
  refine kmb_tree F.kind_max F.plain_max F.entry_max (aKe true _ _) ?_;show Bb _ X.A.in1 (Jv "max" ["key","default"] 0 #[[],[(Eh "default",dv)]]>>=_) _ _ s
 all_goals
  refine Aa (Nd (bd _) (Aa (Ac ?_)));refine Aa (iter_intList hl λs₂ es st hfp hlI=>?_);refine Aa (Cd ?_);have apart:s₂.heap.objs.size∉[#v[0],p]:=λz=>Ej _ (hfp _ z);simp only[nm];have W:=Rp (prog:=X.prog) (w:=X.w) (A:=X.A.in1) (I.ok.hd hc) #v[0] p hlI (So ys);refine Ac #[Fc qt _,tn W cm apart _ 0 _ none _ (by rw[Kf]) (W.frame _ _ _ st λb _ o eb=>Ae _ eb) rfl (Au _ rfl) λv h' tk res kept=>?_];subst es;have old:∀b o,s.heap.get? b=some o->h'.get? b=some o:=λb o eb=>by
   have lt:=Aw eb;refine kept b o (λz=>?_) (λz=>?_) (Ae _ (Ae _ eb))
   ·have z':=Ap.mp z;exact Ab2 lt (by rw[z'];exact Ej _)
   ·rw[Df]at z;exact Ab2 lt (by rw[z];exact Nat.not_lt.mpr (Hq _))
  rcases res with ⟨n0,rfl⟩|⟨_,_,i,hin,pv,best⟩
  ·refine#[d,H,I.kept (t':=tk) old,rd,q0 ?_];rw[hns];have:ys.size=0:=by simpa[So]using n0
   rw[Bf, <-Az]at*;exact List.eq_nil_of_length_eq_zero (by rw[Az];exact this)
  ·obtain⟨t,rfl⟩:=Tj (by simpa[So]using pv);have hin':i<ys.size:=by simpa[So]using hin
   refine#[.int _,H,I.kept (t':=tk) old,#[t,rfl],q1 _ ?_ λa ha=>?_]
   ·rw[hns,Vs];exact getD_mem (by rw[Ab,Az];lia)
   ·rw[hns]at ha;obtain⟨j,hj,rfl⟩:=mem_getD ha;rw[Ab,Az]at hj;have:=best j (by simpa[So]using hj);rw[<-Vs];simpa[bt]using this
inductive D where
 |fl (x:V)
 |tp (l:List D)
 |ls (l:List D)
mutual
def Den(K:Ad)(H:Hp):D->V->Prop
 |.fl x,v=>v=x/\rO x=true
 |.tp l,v=>∃a xs,v=.ref a/\SqT K H a xs/\wX K H l xs
 |.ls l,v=>∃a xs,v=.ref a/\SqL K H a xs/\wX K H l xs
def wX(K:Ad)(H:Hp):List D->List V->Prop
 | [],xs=>xs=[]
 |d::l,xs=>∃x r,xs=x::r/\Den K H d x/\wX K H l r
end
mutual
def D.eq:D->D->Bool
 |.fl x,.fl y=>eqV x y
 |.tp l,.tp m=>D.eqs l m
 |.ls l,.ls m=>D.eqs l m
 |_,_=>false
def D.eqs:List D->List D->Bool
 | [],[]=>true
 |x::l,y::m=>D.eq x y && D.eqs l m
 |_,_=>false
end
mutual
def D.dep:D->Nat
 |.fl _=>0
 |.tp l=>D.deps l+1
 |.ls l=>D.deps l+1
def D.deps:List D->Nat
 | []=>0
 |x::l=>max (D.dep x) (D.deps l)
end
section
variable {X:Cx}{aa:#v[6]}{σ:St}{H:Hp}{s:Shared}
def Inv.not_both{xs ys:List V}(I:#v[3])(h:SqL X.K H a xs)(h':SqT X.K H a ys):False:=by
 obtain⟨ab,r1,p1,_⟩:=I.list h;obtain⟨its2,r2,p2,_⟩:=I.tuple h';obtain⟨o,ho,hc,_⟩:=p1.isList;obtain⟨o2,ho2,hc2,_⟩:=p2;rw[ho]at ho2;cases ho2;rw[hc]at hc2;simp at hc2
mutual
theorem aAt(I:#v[3]):∀(d e:D){v:V},Den X.K H d v->Den X.K H e v->d.eq e=true
 |.fl x,.fl y,v,h,h'=>by
  obtain⟨rfl,f⟩:=h;obtain⟨rfl,_⟩:=h';rw[D.eq];exact aF4 f
 |.fl x,.tp m,v,h,h'=>by
  obtain⟨rfl,f⟩:=h;obtain⟨a,xs,rfl,_⟩:=h';exact(Ar f).elim
 |.fl x,.ls m,v,h,h'=>by
  obtain⟨rfl,f⟩:=h;obtain⟨a,xs,rfl,_⟩:=h';exact(Ar f).elim
 |.tp l,.fl x,v,h',h=>by
  obtain⟨rfl,f⟩:=h;obtain⟨a,xs,rfl,_⟩:=h';exact(Ar f).elim
 |.ls l,.fl x,v,h',h=>by
  obtain⟨rfl,f⟩:=h;obtain⟨a,xs,rfl,_⟩:=h';exact(Ar f).elim
 |.tp l,.tp m,v,h,h'=>by
  obtain⟨a,xs,rfl,h1,h2⟩:=h;obtain⟨b,ys,e,h3,h4⟩:=h';cases e;rw[I.tuple_inj h3 h1]at h4;rw[D.eq];exact xG I l m h2 h4
 |.ls l,.ls m,v,h,h'=>by
  obtain⟨a,xs,rfl,h1,h2⟩:=h;obtain⟨b,ys,e,h3,h4⟩:=h';cases e;rw[I.list_inj h3 h1]at h4;rw[D.eq];exact xG I l m h2 h4
 |.tp l,.ls m,v,h,h'=>by
  obtain⟨a,xs,rfl,h1,h2⟩:=h;obtain⟨b,ys,e,h3,h4⟩:=h';cases e;exact(I.not_both h3 h1).elim
 |.ls l,.tp m,v,h,h'=>by
  obtain⟨a,xs,rfl,h1,h2⟩:=h;obtain⟨b,ys,e,h3,h4⟩:=h';cases e;exact(I.not_both h1 h3).elim
theorem xG(I:#v[3]):∀(l m:List D){xs:List V},wX X.K H l xs->wX X.K H m xs->D.eqs l m=true
 | [],[],xs,h,h'=>by rw[D.eqs]
 | [],_::_,xs,h,h'=>by
  obtain⟨x,r,rfl,_⟩:=h';cases (show(x::r)=[]from h)
 |_::_,[],xs,h',h=>by
  obtain⟨x,r,rfl,_⟩:=h';cases (show(x::r)=[]from h)
 |d::l,e::m,xs,h,h'=>by
  obtain⟨x,r,rfl,h1,h2⟩:=h;obtain⟨y,r',q,h3,h4⟩:=h';cases q;rw[D.eqs,aAt I d e h1 h3,xG I l m h2 h4];rfl
end
mutual
theorem aOh(I:#v[3]):∀(d e:D){v v':V}{u u':Value}{A:Cm},RelV v u->RelV v' u'->Den X.K H d v->Den X.K H e v'->A.units+d.dep+e.dep<cLine->Mw A s u u' (d.eq e)
 |.fl x,.fl y,v,v',u,u',A,r,r',h,h',hu=>by
  obtain⟨rfl,f⟩:=h;obtain⟨rfl,f'⟩:=h';rw[D.eq];exact aWz r r' f f'
 |.fl x,.tp m,v,v',u,u',A,r,r',h,h',hu=>by
  obtain⟨rfl,f⟩:=h;obtain⟨a,xs,rfl,hb,_⟩:=h';cases r';obtain⟨its2,r2,p2,_⟩:=I.tuple hb;rw[show D.eq (.fl v) (.tp m)=false by simp[D.eq]];have hu':A.units<cLine:=by lia
  cases v with
  |non=>cases r;exact SeqAt.EqAt.none_tuple p2 hu'
  |bl c=>cases r;exact SeqAt.EqAt.bool_tuple c p2 hu'
  |int c=>obtain⟨t,rfl⟩:=r;exact SeqAt.EqAt.int_tuple c t p2 hu'
  |str c=>obtain⟨t,rfl⟩:=r;exact SeqAt.EqAt.str_tuple c t p2 hu'
  |_=>exact(Ar f).elim
 |.fl x,.ls m,v,v',u,u',A,r,r',h,h',hu=>by
  obtain⟨rfl,f⟩:=h;obtain⟨a,xs,rfl,hb,_⟩:=h';cases r';obtain⟨its2,r2,p2,_⟩:=I.list hb;rw[show D.eq (.fl v) (.ls m)=false by simp[D.eq]];have hu':A.units<cLine:=by lia
  cases v with
  |non=>cases r;exact SeqAt.EqAt.none_list p2.isList hu'
  |bl c=>cases r;exact SeqAt.EqAt.bool_list c p2.isList hu'
  |int c=>obtain⟨t,rfl⟩:=r;exact SeqAt.EqAt.int_list c t p2.isList hu'
  |str c=>obtain⟨t,rfl⟩:=r;exact SeqAt.EqAt.str_list c t p2.isList hu'
  |_=>exact(Ar f).elim
 |.tp l,.fl x,v',v,u',u,A,r',r,h',h,hu=>by
  obtain⟨rfl,f⟩:=h;obtain⟨a,xs,rfl,hb,_⟩:=h';cases r';obtain⟨its2,r2,p2,_⟩:=I.tuple hb;rw[show D.eq (.tp l) (.fl v)=false by simp[D.eq]];have hu':A.units<cLine:=by lia
  cases v with
  |non=>cases r;exact SeqAt.EqAt.tuple_none p2 hu'
  |bl c=>cases r;exact SeqAt.EqAt.tuple_bool c p2 hu'
  |int c=>obtain⟨t,rfl⟩:=r;exact SeqAt.EqAt.tuple_int c t p2 hu'
  |str c=>obtain⟨t,rfl⟩:=r;exact SeqAt.EqAt.tuple_str c t p2 hu'
  |_=>exact(Ar f).elim
 |.ls l,.fl x,v',v,u',u,A,r',r,h',h,hu=>by
  obtain⟨rfl,f⟩:=h;obtain⟨a,xs,rfl,hb,_⟩:=h';cases r';obtain⟨its2,r2,p2,_⟩:=I.list hb;rw[show D.eq (.ls l) (.fl v)=false by simp[D.eq]];have hu':A.units<cLine:=by lia
  cases v with
  |non=>cases r;exact SeqAt.EqAt.list_none p2.isList hu'
  |bl c=>cases r;exact SeqAt.EqAt.list_bool c p2.isList hu'
  |int c=>obtain⟨t,rfl⟩:=r;exact SeqAt.EqAt.list_int c t p2.isList hu'
  |str c=>obtain⟨t,rfl⟩:=r;exact SeqAt.EqAt.list_str c t p2.isList hu'
  |_=>exact(Ar f).elim
 |.tp l,.ls m,v,v',u,u',A,r,r',h,h',hu=>by
  obtain⟨a,xs,rfl,h1,_⟩:=h;obtain⟨b,ys,rfl,h3,_⟩:=h';cases r;cases r';obtain⟨ab,r1,p1,_⟩:=I.tuple h1;obtain⟨its2,r2,p2,_⟩:=I.list h3;rw[show D.eq (.tp l) (.ls m)=false by simp[D.eq]];exact SeqAt.EqAt.tuple_list p1 p2.isList ∅
 |.ls l,.tp m,v,v',u,u',A,r,r',h,h',hu=>by
  obtain⟨a,xs,rfl,h1,_⟩:=h;obtain⟨b,ys,rfl,h3,_⟩:=h';cases r;cases r';obtain⟨ab,r1,p1,_⟩:=I.list h1;obtain⟨its2,r2,p2,_⟩:=I.tuple h3;rw[show D.eq (.ls l) (.tp m)=false by simp[D.eq]];exact SeqAt.EqAt.list_tuple p1.isList p2 ∅
 |.tp l,.tp m,v,v',u,u',A,r,r',h,h',hu=>by
  by_cases hab:v=v'
  ·subst hab;rw[aAt I _ _ h h'];rw[show u'=u from by obtain⟨a,xs,rfl,_⟩:=h;cases r;cases r';rfl];exact Ot _
  ·obtain⟨a,xs,rfl,h1,h2⟩:=h;obtain⟨b,ys,rfl,h3,h4⟩:=h';cases r;cases r';obtain⟨ab,r1,p1,_⟩:=I.tuple h1;obtain⟨its2,r2,p2,_⟩:=I.tuple h3;rw[D.dep,D.dep]at hu;obtain⟨e,he,ee⟩:=vR (A:=A.in1) I l m r1 r2 h2 h4 (by show A.units+1+_+_<_;lia);have key:=Sr (A:=A) (s:=s) (l:=a) (b:=b) (items:=ab.toArray) (items2:=its2.toArray) (e:=e) p1 p2 ∅ (λj g1 g2=>by
    have:=he j (by simpa using g1) (by simpa using g2);simpa using this)
   rw[Al,Al,ee]at key;rw[D.eq];exact Sb (λz=>hab (by rw[z])) key
 |.ls l,.ls m,v,v',u,u',A,r,r',h,h',hu=>by
  by_cases hab:v=v'
  ·subst hab;rw[aAt I _ _ h h'];rw[show u'=u from by obtain⟨a,xs,rfl,_⟩:=h;cases r;cases r';rfl];exact Ot _
  ·obtain⟨a,xs,rfl,h1,h2⟩:=h;obtain⟨b,ys,rfl,h3,h4⟩:=h';cases r;cases r';obtain⟨ab,r1,p1,_⟩:=I.list h1;obtain⟨its2,r2,p2,_⟩:=I.list h3;rw[D.dep,D.dep]at hu;obtain⟨e,he,ee⟩:=vR (A:=A.in1) I l m r1 r2 h2 h4 (by show A.units+1+_+_<_;lia);rw[D.eq];refine Sb (λz=>hab (by rw[z])) ?_;by_cases hz:ab.toArray.size=its2.toArray.size
   ·have key:=Tp (A:=A) (s:=s) (l:=a) (b:=b) (items:=ab.toArray) (items2:=its2.toArray) (e:=e) p1.isList p2.isList hz ∅ (λj g1 g2=>by
     have:=he j (by simpa using g1) (by simpa using g2);simpa using this)
    rw[Al,Al]at hz;rw[<-hz,Aa6,Ac0,Zr]at ee;rw[Al,ee]at key;exact key
   ·have hb':(ab.length==its2.length)=false:=by simpa using hz
    rw[hb',Ji]at ee;rw[<-ee];exact SeqAt.RcAt.lists_lengths p1.isList p2.isList (by simpa using hz) ∅
theorem vR(I:#v[3]){A:Cm}:∀(l m:List D){xs ys:List V}{us ws:List Value},Vals xs us->Vals ys ws->wX X.K H l xs->wX X.K H m ys->A.units+D.deps l+D.deps m<cLine->
  ∃e:Nat->Bool,(∀j(h1:j<us.length)(h2:j<ws.length),Mw A s us[j] ws[j] (e j))/\((Bq (min us.length ws.length)).all e && us.length==ws.length)=D.eqs l m
 | [],m,xs,ys,us,ws,r,r',h,h',hu=>by
  cases (show xs=[]from h);cases r;refine#[λ_=>true,λj h1 _=>Ab2 h1 (Eu j),?_];cases m with
  |nil=>cases (show ys=[]from h');cases r';rw[D.eqs];rfl
  |cons e m=>
   obtain⟨y,t,rfl,_⟩:=h';cases r';simp[D.eqs]
 |d::l,[],xs,ys,us,ws,r,r',h,h',hu=>by
  obtain⟨x,t,rfl,_⟩:=h;cases (show ys=[]from h');cases r;cases r';exact#[λ_=>true,λj _ h1=>Ab2 h1 (Eu j),by simp[D.eqs]]
 |d::l,e::m,xs,ys,us,ws,r,r',h,h',hu=>by
  obtain⟨x,t,rfl,h1,h2⟩:=h;obtain⟨y,t',rfl,h3,h4⟩:=h';cases r with
  |@cons _ u0 _ us0 ru rus=>
  cases r' with
  |@cons _ w0 _ ws0 rw0 rws=>
  have hu1:A.units+d.dep+e.dep<cLine:=by
   rw[D.deps,D.deps]at hu;have:=Nl d.dep (D.deps l);have:=Nl e.dep (D.deps m)
   lia
  have hu2:A.units+D.deps l+D.deps m<cLine:=by
   rw[D.deps,D.deps]at hu;have:=Mr d.dep (D.deps l);have:=Mr e.dep (D.deps m)
   lia
  have E0:=aOh I d e (A:=A) ru rw0 h1 h3 hu1;obtain⟨e',he,ee⟩:=vR I l m rus rws h2 h4 hu2;refine#[λj=>match j with|0=>d.eq e|j+1=>e' j,λj g1 g2=>?_,?_]
  ·cases j with
   |zero=>exact E0
   |succ j=>exact he j (by simpa using g1) (by simpa using g2)
  ·have hmin:min (u0::us0).length (w0::ws0).length=min us0.length ws0.length+1:=by
    rw[Ao,Ao]
    lia
   rw[hmin,rZ,D.eqs, <-ee];show(d.eq e && (Bq (min us0.length ws0.length)).all e' && _)=_;rw[Bool.and_assoc];congr 2;rw[Xv];simp
end
end
def aYc{A:Cm}{y x:V}{u v:Value}(ry:RelV y u)(rx:RelV x v)(fy:rO y=true)(fx:rO x=true):Aa0 A s u v (eqV y x)/\Yy A s u v (!eqV y x):=by
 cases y<;>first|exact(Ar fy).elim|(cases x<;>first|exact(Ar fx).elim|skip)
 all_goals first|obtain⟨t1,rfl⟩:=ry|cases ry
 all_goals first|obtain⟨t2,rfl⟩:=rx|cases rx
 ·exact#[.none_none,.none_none]
 ·exact#[.none_bool _,.none_bool _]
 ·exact#[.none_int _ _,.none_int _ _]
 ·exact#[.none_str _ _,.none_str _ _]
 ·exact#[.bool_none _,.bool_none _]
 ·exact#[.bool_bool _ _,.bool_bool _ _]
 ·exact#[.bool_int _ _ _,.bool_int _ _ _]
 ·exact#[.bool_str _ _ _,.bool_str _ _ _]
 ·exact#[.int_none _ _,.int_none _ _]
 ·exact#[.int_bool _ _ _,.int_bool _ _ _]
 ·exact#[.int_int _ _ _ _,.int_int _ _ _ _]
 ·exact#[.int_str _ _ _ _,.int_str _ _ _ _]
 ·exact#[.str_none _ _,.str_none _ _]
 ·exact#[.str_bool _ _ _,.str_bool _ _ _]
 ·exact#[.str_int _ _ _ _,.str_int _ _ _ _]
 ·exact#[.str_str _ _ _ _,.str_str _ _ _ _]
section
variable {X:Cx}{aa:#v[6]}{σ:St}{H:Hp}{s:Shared}
def aQ7(I:#v[3])(d e:D){v v':V}{A:Cm}(r:RelV v u)(r':RelV v' u')(h:Den X.K H d v)(h':Den X.K H e v')(hu:A.units+d.dep+e.dep<cLine):
  Aa0 A s u u' (d.eq e)/\Yy A s u u' (!d.eq e):=by
 have hu':A.units<cLine:=by lia
 match d,e,h,h',hu with
 |.fl x,.fl y,h,h',hu=>
  obtain⟨rfl,f⟩:=h;obtain⟨rfl,f'⟩:=h';rw[D.eq];exact aYc r r' f f'
 |.fl x,.tp m,h,h',hu=>
  obtain⟨rfl,f⟩:=h;obtain⟨a,xs,rfl,hb,_⟩:=h';cases r';obtain⟨its2,r2,p2,_⟩:=I.tuple hb;rw[show D.eq (.fl v) (.tp m)=false by simp[D.eq]];cases v with
  |non=>cases r;exact#[.none_tuple p2 hu',.none_tuple p2 hu']
  |bl c=>cases r;exact#[.bool_tuple c p2 hu',.bool_tuple c p2 hu']
  |int c=>obtain⟨t,rfl⟩:=r;exact#[.int_tuple c t p2 hu',.int_tuple c t p2 hu']
  |str c=>obtain⟨t,rfl⟩:=r;exact#[.str_tuple c t p2 hu',.str_tuple c t p2 hu']
  |_=>exact(Ar f).elim
 |.fl x,.ls m,h,h',hu=>
  obtain⟨rfl,f⟩:=h;obtain⟨a,xs,rfl,hb,_⟩:=h';cases r';obtain⟨its2,r2,p2,_⟩:=I.list hb;rw[show D.eq (.fl v) (.ls m)=false by simp[D.eq]];have p2:=p2.isList;cases v with
  |non=>cases r;exact#[.none_list p2 hu',.none_list p2 hu']
  |bl c=>cases r;exact#[.bool_list c p2 hu',.bool_list c p2 hu']
  |int c=>obtain⟨t,rfl⟩:=r;exact#[.int_list c t p2 hu',.int_list c t p2 hu']
  |str c=>obtain⟨t,rfl⟩:=r;exact#[.str_list c t p2 hu',.str_list c t p2 hu']
  |_=>exact(Ar f).elim
 |.tp m,.fl x,h',h,hu=>
  obtain⟨rfl,f⟩:=h;obtain⟨a,xs,rfl,hb,_⟩:=h';cases r;obtain⟨its2,r2,p2,_⟩:=I.tuple hb;rw[show D.eq (.tp m) (.fl v')=false by simp[D.eq]];cases v' with
  |non=>cases r';exact#[.tuple_none p2 hu',.tuple_none p2 hu']
  |bl c=>cases r';exact#[.tuple_bool c p2 hu',.tuple_bool c p2 hu']
  |int c=>obtain⟨t,rfl⟩:=r';exact#[.tuple_int c t p2 hu',.tuple_int c t p2 hu']
  |str c=>obtain⟨t,rfl⟩:=r';exact#[.tuple_str c t p2 hu',.tuple_str c t p2 hu']
  |_=>exact(Ar f).elim
 |.ls m,.fl x,h',h,hu=>
  obtain⟨rfl,f⟩:=h;obtain⟨a,xs,rfl,hb,_⟩:=h';cases r;obtain⟨its2,r2,p2,_⟩:=I.list hb;rw[show D.eq (.ls m) (.fl v')=false by simp[D.eq]];have p2:=p2.isList;cases v' with
  |non=>cases r';exact#[.list_none p2 hu',.list_none p2 hu']
  |bl c=>cases r';exact#[.list_bool c p2 hu',.list_bool c p2 hu']
  |int c=>obtain⟨t,rfl⟩:=r';exact#[.list_int c t p2 hu',.list_int c t p2 hu']
  |str c=>obtain⟨t,rfl⟩:=r';exact#[.list_str c t p2 hu',.list_str c t p2 hu']
  |_=>exact(Ar f).elim
 |.tp l,.ls m,h,h',hu=>
  obtain⟨a,xs,rfl,h1,_⟩:=h;obtain⟨b,ys,rfl,h3,_⟩:=h';cases r;cases r';obtain⟨ab,r1,p1,_⟩:=I.tuple h1;obtain⟨its2,r2,p2,_⟩:=I.list h3;rw[show D.eq (.tp l) (.ls m)=false by simp[D.eq]];exact#[.tuple_list p1 p2.isList hu',.tuple_list p1 p2.isList hu']
 |.ls l,.tp m,h,h',hu=>
  obtain⟨a,xs,rfl,h1,_⟩:=h;obtain⟨b,ys,rfl,h3,_⟩:=h';cases r;cases r';obtain⟨ab,r1,p1,_⟩:=I.list h1;obtain⟨its2,r2,p2,_⟩:=I.tuple h3;rw[show D.eq (.ls l) (.tp m)=false by simp[D.eq]];exact#[.list_tuple p1.isList p2 hu',.list_tuple p1.isList p2 hu']
 |.tp l,.tp m,h,h',hu=>
  obtain⟨a,xs,rfl,h1,h2⟩:=h;obtain⟨b,ys,rfl,h3,h4⟩:=h';cases r;cases r';obtain⟨ab,r1,p1,_⟩:=I.tuple h1;obtain⟨its2,r2,p2,_⟩:=I.tuple h3;rw[D.dep,D.dep]at hu;obtain⟨e,he,ee⟩:=vR (A:=A.in1) I l m r1 r2 h2 h4 (by show A.units+1+_+_<_;lia);have hj:∀j(g1:j<ab.toArray.size)(g2:j<its2.toArray.size),Mw A.in1 s ab.toArray[j] its2.toArray[j] (e j):=λj g1 g2=>by
   have:=he j (by simpa using g1) (by simpa using g2);simpa using this
  have k1:=Sr p1 p2 hu' hj;have k2:=Aay p1 p2 hu' hj;rw[Al,Al,ee]at k1 k2;rw[D.eq];exact#[k1,k2]
 |.ls l,.ls m,h,h',hu=>
  obtain⟨a,xs,rfl,h1,h2⟩:=h;obtain⟨b,ys,rfl,h3,h4⟩:=h';cases r;cases r';obtain⟨ab,r1,p1,_⟩:=I.list h1;obtain⟨its2,r2,p2,_⟩:=I.list h3;rw[D.dep,D.dep]at hu;obtain⟨e,he,ee⟩:=vR (A:=A.in1) I l m r1 r2 h2 h4 (by show A.units+1+_+_<_;lia);have hj:∀j(g1:j<ab.toArray.size)(g2:j<its2.toArray.size),Mw A.in1 s ab.toArray[j] its2.toArray[j] (e j):=λj g1 g2=>by
   have:=he j (by simpa using g1) (by simpa using g2);simpa using this
  rw[D.eq];by_cases hz:ab.toArray.size=its2.toArray.size
  ·have k1:=Tp p1.isList p2.isList hz hu' hj;have k2:=Aaz p1.isList p2.isList hz hu' hj;rw[Al,Al]at hz;rw[<-hz,Aa6,Ac0,Zr]at ee;rw[Al,ee]at k1 k2;exact#[k1,k2]
  ·have hb':(ab.length==its2.length)=false:=by simpa using hz
   rw[hb',Ji]at ee;rw[<-ee];exact#[.lists_lengths p1.isList p2.isList (by simpa using hz) hu',.lists_lengths p1.isList p2.isList (by simpa using hz) hu']
def Den.inj(I:#v[3]):∀(d:D)(e:D){v:V},Den X.K H d v->Den X.K H e v->d=e:=by
 have key:∀(n:Nat)(d e:D){v:V},d.dep<=n->Den X.K H d v->Den X.K H e v->d=e:=by
  intro n;induction n with
  |zero=>
   intro d e v hn h h';match d,e,h,h',hn with
   |.fl x,.fl y,h,h',_=>rw[<-h.1, <-h'.1]
   |.fl x,.tp m,h,h',_=>obtain⟨rfl,f⟩:=h;obtain⟨a,xs,rfl,_⟩:=h';exact(Ar f).elim
   |.fl x,.ls m,h,h',_=>obtain⟨rfl,f⟩:=h;obtain⟨a,xs,rfl,_⟩:=h';exact(Ar f).elim
   |.tp l,_,_,_,hn=>rw[D.dep]at hn;lia
   |.ls l,_,_,_,hn=>rw[D.dep]at hn;lia
  |succ n ih=>
   have items:∀(l m:List D){xs:List V},D.deps l<=n->wX X.K H l xs->wX X.K H m xs->l=m:=by
    intro l;induction l with
    |nil=>
     intro m xs _ h h';cases (show xs=[]from h);cases m with
     |nil=>rfl
     |cons e m=>obtain⟨y,t,q,_⟩:=h';cases q
    |cons d l il=>
     intro m xs hn h h';obtain⟨x,t,rfl,h1,h2⟩:=h;cases m with
     |nil=>cases (show(x::t)=[]from h')
     |cons e m=>
      obtain⟨y,t',q,h3,h4⟩:=h';cases q;rw[D.deps]at hn;have a1:=Nl d.dep (D.deps l);have a2:=Mr d.dep (D.deps l);rw[ih d e ∅ h1 h3,il m ∅ h2 h4]
   intro d e v hn h h';match d,e,h,h',hn with
   |.fl x,.fl y,h,h',_=>rw[<-h.1, <-h'.1]
   |.fl x,.tp m,h,h',_=>obtain⟨rfl,f⟩:=h;obtain⟨a,xs,rfl,_⟩:=h';exact(Ar f).elim
   |.fl x,.ls m,h,h',_=>obtain⟨rfl,f⟩:=h;obtain⟨a,xs,rfl,_⟩:=h';exact(Ar f).elim
   |.tp m,.fl x,h',h,_=>obtain⟨rfl,f⟩:=h;obtain⟨a,xs,rfl,_⟩:=h';exact(Ar f).elim
   |.ls m,.fl x,h',h,_=>obtain⟨rfl,f⟩:=h;obtain⟨a,xs,rfl,_⟩:=h';exact(Ar f).elim
   |.tp l,.ls m,h,h',_=>obtain⟨a,xs,rfl,h1,_⟩:=h;obtain⟨b,ys,e,h3,_⟩:=h';cases e;exact(I.not_both h3 h1).elim
   |.ls l,.tp m,h,h',_=>obtain⟨a,xs,rfl,h1,_⟩:=h;obtain⟨b,ys,e,h3,_⟩:=h';cases e;exact(I.not_both h1 h3).elim
   |.tp l,.tp m,h,h',hn=>
    obtain⟨a,xs,rfl,h1,h2⟩:=h;obtain⟨b,ys,e,h3,h4⟩:=h';cases e;rw[I.tuple_inj h3 h1]at h4;rw[D.dep]at hn;rw[items l m ∅ h2 h4]
   |.ls l,.ls m,h,h',hn=>
    obtain⟨a,xs,rfl,h1,h2⟩:=h;obtain⟨b,ys,e,h3,h4⟩:=h';cases e;rw[I.list_inj h3 h1]at h4;rw[D.dep]at hn;rw[items l m ∅ h2 h4]
 exactλd e v h h'=>key _ d e (Ak _) h h'
inductive aU7(K:Ad)(neg:Bool)(x:V)(y:V)(H:Hp)(Q:VK):Prop
 |mk (d e:_) (q0_:Den K H d x) (q1_:Den K H e y) (q2_:d.dep+e.dep<=100) (q3_:Q (.bl (if neg then !d.eq e else d.eq e)) H):aU7 K neg x y H Q
def aX8(K:Ad)(neg:Bool):R2:=λx y H Q=>aU7 K neg x y H Q
def eO(hu:X.A.units+101<cLine):OpR X (Ff .Eq) (aX8 X.K false):=by
 intro aa s σ H x y v u Q I rx ry h;obtain⟨d,e,h1,h2,hd,q⟩:=h;exact(aQ7 (A:=X.A) I d e rx ry h1 h2 ∅).1 _ _ _ _ #[.bl _,H,I,rfl,q]
def lU(hu:X.A.units+101<cLine):OpR X (Ff .NotEq) (aX8 X.K true):=by
 intro aa s σ H x y v u Q I rx ry h;obtain⟨d,e,h1,h2,hd,q⟩:=h;exact(aQ7 (A:=X.A) I d e rx ry h1 h2 ∅).2 _ _ _ _ #[.bl _,H,I,rfl,q]
inductive aU9(K:Ad)(neg:Bool)(x:V)(y:V)(H:Hp)(Q:VK):Prop
 |mk (d p xs l:_) (q0_:Den K H d x) (q1_:y=.ref p) (q2_:(SqL K H p xs∨SqT K H p xs)) (q3_:wX K H l xs) (q4_:d.dep+D.deps l<=99) (q5_:Q (.bl (if neg then !(l.any λe=>e.eq d)else l.any λe=>e.eq d)) H):aU9 K neg x y H Q
def aX9(K:Ad)(neg:Bool):R2:=λx y H Q=>aU9 K neg x y H Q
open Classical in
def tW(I:#v[3]){x:V}{v:Value}(rx:RelV x v)(hx:Den X.K H d x){A:Cm}:∀{l:List D}{xs:List V}{us:List Value},Vals xs us->wX X.K H l xs->A.units+d.dep+D.deps l<cLine->
  ∃e:Value->Bool,(e=λw=>decide (∃d' x',RelV x' w/\Den X.K H d' x'/\d'.eq d=true))/\(∀w∈us,Mw A s w v (e w))/\us.any e=l.any λe=>e.eq d:=by
 intro l;induction l with
 |nil=>
  intro xs us r h hu;cases (show xs=[]from h);cases r;exact#[_,rfl,λw hw=>(by cases hw),rfl]
 |cons d0 l ih=>
  intro xs us r h hu;obtain⟨x0,t,rfl,h1,h2⟩:=h;cases r with
  |@cons _ u0 _ us0 r0 rr=>
  rw[D.deps]at hu;have a1:=Nl d0.dep (D.deps l);have a2:=Mr d0.dep (D.deps l);obtain⟨e,ee,i1,i2⟩:=ih rr h2 ∅;have e0:e u0=d0.eq d:=by
   rw[ee];by_cases hq:d0.eq d=true
   ·rw[hq];exact Ab5 #[d0,x0,r0,h1,hq]
   ·rw[Bool.not_eq_true]at hq;rw[hq];refine Ab6 ?_;rintro⟨d',x',r',h',q'⟩;cases RelV.inj r' r0;rw[Den.inj I d' d0 h' h1,hq]at q';cases q'
  refine#[e,ee,λw hw=>?_,?_]
  ·rcases Ax.mp hw with rfl|hw
   ·rw[e0];exact aOh I d0 d r0 rx h1 hx ∅
   ·exact i1 w hw
  ·rw[Ju,Ju,i2,e0]
def aXl(hu:X.A.units+101<cLine):OpR X (Ff .In) (aX9 X.K false):=by
 intro aa s σ H x y v u Q I rx ry h;obtain⟨d,p,xs,l,h1,rfl,hq,h2,hd,q⟩:=h;cases ry;rcases hq with hq|hq
 ·obtain⟨ab,r,pl,hz⟩:=I.list hq;obtain⟨e,_,i1,i2⟩:=tW (A:=X.A.in1) I rx h1 r h2 (by show X.A.units+1+_+_<_;lia);refine SeqAt.in_listAt e pl.isList (λw hw=>i1 w (by simpa using hw)) #[.bl _,H,I,rfl,?_];rw[show ab.toArray.any e=ab.any e by simp,i2];exact q
 ·obtain⟨ab,r,pl,hz⟩:=I.tuple hq;obtain⟨e,_,i1,i2⟩:=tW (A:=X.A.in1) I rx h1 r h2 (by show X.A.units+1+_+_<_;lia);refine SeqAt.in_tupleAt e pl (λw hw=>i1 w (by simpa using hw)) #[.bl _,H,I,rfl,?_];rw[show ab.toArray.any e=ab.any e by simp,i2];exact q
def aC2(hu:X.A.units+101<cLine):OpR X (Ff .NotIn) (aX9 X.K true):=by
 intro aa s σ H x y v u Q I rx ry h;obtain⟨d,p,xs,l,h1,rfl,hq,h2,hd,q⟩:=h;cases ry;rcases hq with hq|hq
 ·obtain⟨ab,r,pl,hz⟩:=I.list hq;obtain⟨e,_,i1,i2⟩:=tW (A:=X.A.in1) I rx h1 r h2 (by show X.A.units+1+_+_<_;lia);refine SeqAt.notIn_listAt e pl.isList (λw hw=>i1 w (by simpa using hw)) #[.bl _,H,I,rfl,?_];rw[show ab.toArray.any e=ab.any e by simp,i2];exact q
 ·obtain⟨ab,r,pl,hz⟩:=I.tuple hq;obtain⟨e,_,i1,i2⟩:=tW (A:=X.A.in1) I rx h1 r h2 (by show X.A.units+1+_+_<_;lia);refine SeqAt.notIn_tupleAt e pl (λw hw=>i1 w (by simpa using hw)) #[.bl _,H,I,rfl,?_];rw[show ab.toArray.any e=ab.any e by simp,i2];exact q
end
mutual
def uN(Av:Addr->Prop)(H:Hp):D->V->Prop
 |.fl x,v=>v=x/\rO x=true
 |.tp l,v=>∃p xs,v=.ref p/\H p=some (.tup xs)/\fL Av H l xs
 |.ls l,v=>∃p xs,v=.ref p/\¬Av p/\H p=some (.lst xs)/\fL Av H l xs
def fL(Av:Addr->Prop)(H:Hp):List D->List V->Prop
 | [],xs=>xs=[]
 |d::l,xs=>∃x r,xs=x::r/\uN Av H d x/\fL Av H l r
end
variable {Av:Addr->Prop}{H H':Hp}
mutual
theorem uN.mono(k1:#v[v])(k2:∀b xs,¬Av b->H b=some (.lst xs)->H' b=some (.lst xs)):∀(d:D){v:V},uN Av H d v->uN Av H' d v
 |.fl x,v,h=>h
 |.tp l,v,h=>by
  obtain⟨p,xs,e,hp,t⟩:=h;exact#[p,xs,e,k1 _ _ hp,fL.mono k1 k2 l t]
 |.ls l,v,h=>by
  obtain⟨p,xs,e,n,hp,t⟩:=h;exact#[p,xs,e,n,k2 _ _ n hp,fL.mono k1 k2 l t]
theorem fL.mono(k1:#v[v])(k2:∀b xs,¬Av b->H b=some (.lst xs)->H' b=some (.lst xs)):∀(l:List D){xs:List V},fL Av H l xs->fL Av H' l xs
 | [],xs,h=>h
 |d::l,xs,h=>by
  obtain⟨x,r,e,h1,h2⟩:=h;exact#[x,r,e,uN.mono k1 k2 d h1,fL.mono k1 k2 l h2]
end
mutual
theorem uN.den(K:Ad):∀(d:D){v:V},uN Av H d v->Den K H d v
 |.fl x,v,h=>h
 |.tp l,v,h=>by
  obtain⟨p,xs,e,hp,t⟩:=h;exact#[p,xs,e,SqT.of hp,fL.dens K l t]
 |.ls l,v,h=>by
  obtain⟨p,xs,e,n,hp,t⟩:=h;exact#[p,xs,e,SqL.of hp,fL.dens K l t]
theorem fL.dens(K:Ad):∀(l:List D){xs:List V},fL Av H l xs->wX K H l xs
 | [],xs,h=>h
 |d::l,xs,h=>by
  obtain⟨x,r,e,h1,h2⟩:=h;exact#[x,r,e,uN.den K d h1,fL.dens K l h2]
end
mutual
theorem uN.weak(k:∀b,Bv b->Av b):∀(d:D){v:V},uN Av H d v->uN Bv H d v
 |.fl x,v,h=>h
 |.tp l,v,h=>by
  obtain⟨p,xs,e,hp,t⟩:=h;exact#[p,xs,e,hp,fL.weak k l t]
 |.ls l,v,h=>by
  obtain⟨p,xs,e,n,hp,t⟩:=h;exact#[p,xs,e,λz=>n (k p z),hp,fL.weak k l t]
theorem fL.weak(k:∀b,Bv b->Av b):∀(l:List D){xs:List V},fL Av H l xs->fL Bv H l xs
 | [],xs,h=>h
 |d::l,xs,h=>by
  obtain⟨x,r,e,h1,h2⟩:=h;exact#[x,r,e,uN.weak k d h1,fL.weak k l h2]
end
mutual
theorem uN.refl:∀(d:D){v:V},uN Av H d v->d.eq d=true
 |.fl x,v,h=>by
  rw[D.eq];exact aF4 h.2
 |.tp l,v,h=>by
  obtain⟨p,xs,e,hp,t⟩:=h;rw[D.eq];exact fL.refl l t
 |.ls l,v,h=>by
  obtain⟨p,xs,e,n,hp,t⟩:=h;rw[D.eq];exact fL.refl l t
theorem fL.refl:∀(l:List D){xs:List V},fL Av H l xs->D.eqs l l=true
 | [],xs,h=>by rw[D.eqs]
 |d::l,xs,h=>by
  obtain⟨x,r,e,h1,h2⟩:=h;rw[D.eqs,uN.refl d h1,fL.refl l h2];rfl
end
structure Cal(P:An)(w:Bh)(K:Ad)(mg:Str->#v[10])(base:Heap)(CX:CXT)(k:Nat)(x:Str)(ps:List Str)(sp:Sp):Prop where
 ex:∃f fd,bJ P w K mg base CX k f fd ps sp/\mg x=some (.ref f)/\Iu K (.ref f)=true/\Binds K fd ps []
def aXp{X:Cx}{CX:CXT}{x:Str}{sp:Sp}{E:XK}{e:Cr}{es:List Cr}{t:TA}{p pos:Pos}(C:Cal X.prog X.w X.K X.mg X.base CX k x ps sp)(hr:eZ k X.A)(hg:Gl X x)(hx:rW CX X E)
  (ha:PA X (e::es) t) (hdb:ND x:=by decide) (he:SE X e es:=by rfl) (hpl:BT X pos es:=by rfl):
  PE X (.Call (.Name x p) (e::es) [] pos) (aWe sp [] E t):=by
 obtain⟨f,fd,F,hm,hk,hb⟩:=C.ex;exact aTs F hr hg hm hk hb .nil hx ha hdb he hpl
abbrev oU(scope sc0:Scope)(cap:#v[12])(N:List Str):Prop:=scope.kind=.function/\(∀y∈scope.names,y.2≠.cell)/\(∀y∈scope.names,y.2=.local->scope.names.lookup y.1=some .local)/\
 (∀y∈scope.names,y.2=.free->sc0.names.lookup y.1=some .cell)/\(∀p∈cap,N[p.2]? =some p.1/\scope.names.lookup p.1=some .free/\sc0.names.lookup p.1=some .cell)
def aKl(hs:X.env.scope=sc0)(hN:X.N=N0)(hcell:HC X)(ok:oU scope sc0 cap N0):∃cl,cZ X scope cap cl:=by
 subst hs hN;exact aIl hcell ok.1 ok.2.1 ok.2.2.1 ok.2.2.2.1 ok.2.2.2.2
def bAv{elt iter tg:Cr}{te:TE}(sc0:Scope)(N0:List Str)(hsc:X.env.scope=sc0)(hN:X.N=N0)(hcell:HC X)
  (ok:oU scope sc0 cap N0) (hc:X.calm=true) (hi:PI X tg iter wi)
  (hg:∀cl C s2 H2 fp,PG #v[2] tg g) (he:∀cl C s2 H2 fp,PE #v[2] elt te)
  (hs:FS X iter:=by intro _;rfl):PE X #v[8] (wK own.length cap wi g te):=by
 obtain⟨cl,S⟩:=aKl hsc hN hcell ok;exact aK3 S hc hi (hg cl) (he cl) hs
def aXq{elt iter tg ci:Cr}{te:TE}(sc0:Scope)(N0:List Str)(hsc:X.env.scope=sc0)(hN:X.N=N0)(hcell:HC X)
  (ok:oU scope sc0 cap N0) (hc:X.calm=true) (hi:PI X tg iter wi)
  (hg:∀cl C s2 H2 fp,PG #v[2] tg g) (htc:∀cl C s2 H2 fp,PT #v[2] ci tc) (he:∀cl C s2 H2 fp,PE #v[2] elt te)
  (hs:FS X iter:=by intro _;rfl):PE X #v[9] (vI own.length cap wi g tc te):=by
 obtain⟨cl,S⟩:=aKl hsc hN hcell ok;exact aQm S hc hi (hg cl) (htc cl) (he cl) hs
def aV8{x:Str}{elt iter tg:Cr}{pos spos py:Pos}{te:TE}(hnd:X.N.Nodup)(hi':X.N[i]? =some x)(hx:Loc X.env.scope x)
  (sc0:Scope) (N0:List Str) (hsc:X.env.scope=sc0) (hN:X.N=N0) (hcell:HC X)
  (ok:oU scope sc0 cap N0) (hc:X.calm=true) (hi:PI X tg iter wi)
  (hg:∀cl C s2 H2 fp,PG #v[2] tg g) (he:∀cl C s2 H2 fp,PE #v[2] elt te)
  (hsw:#v[p]:=by rfl)
  (hs:FS X iter:=by intro _;rfl) (hf:FL X x:=by trivial):
  PS X (.Assign [.Name x py] #v[8] spos) (aHj (wK own.length cap wi g te) (pY i)):=by
 obtain⟨cl,S⟩:=aKl hsc hN hcell ok;exact aJk hnd hi' hx S hc hi (hg cl) (he cl) hsw hs hf
def aX1{x:Str}{elt iter tg ci:Cr}{pos spos py:Pos}{te:TE}(hnd:X.N.Nodup)(hi':X.N[i]? =some x)(hx:Loc X.env.scope x)
  (sc0:Scope) (N0:List Str) (hsc:X.env.scope=sc0) (hN:X.N=N0) (hcell:HC X)
  (ok:oU scope sc0 cap N0) (hc:X.calm=true) (hi:PI X tg iter wi)
  (hg:∀cl C s2 H2 fp,PG #v[2] tg g) (htc:∀cl C s2 H2 fp,PT #v[2] ci tc) (he:∀cl C s2 H2 fp,PE #v[2] elt te)
  (hsw:Fe #v[9] (some (.Name x py)) spos.line X.env=pure true:=by rfl)
  (hs:FS X iter:=by intro _;rfl) (hf:FL X x:=by trivial):
  PS X (.Assign [.Name x py] #v[9] spos) (aHj (vI own.length cap wi g tc te) (pY i)):=by
 obtain⟨cl,S⟩:=aKl hsc hN hcell ok;exact aG1 hnd hi' hx S hc hi (hg cl) (htc cl) (he cl) hsw hs hf
def aQl{elt iter tg:Cr}{own:List Str}{cap:#v[12]}{te:TE}
  (S:mY X scope cap cl) (hc:X.calm=true) (hi:PI X tg iter wi) (gm:∀x σ H(Q Q':St->Hp->Prop),(∀σ H,Q σ H->Q' σ H)->g x σ H Q->g x σ H Q')
  (hg:∀cs,dM X scope cs->∀C s2 H2 fp,PG #v[h] tg g) (he:∀cs,dM X scope cs->∀C s2 H2 fp,PE #v[h] elt te)
  (hs:FS X iter:=by intro _;rfl):PE X #v[8] (wK own.length cap wi g te):=by
 intro aa s σ H Q I h;rw[eval_ListComp];refine Jz (use:=none) rfl hs S.clos S.kind S.names (thn (hi aa s σ H _ I h) λv s1 h1=>thn h1 λitv s2 h2=>?_);obtain⟨it,fp,tn,J,H2,e,I2,T,st2,f2,rd⟩:=h2;subst e;obtain⟨W,w0,turn⟩:=rd _ (I2.hok.fresh (Ak _));exact sO (RR:=λaf C=>Yr #v[a] X.A X.xe none (EP X aa σ Q) af C) S hc I2 T st2 f2 (λcs cf _=>hg cs cf) (λ_ _ _ _ _ _ _=>zU) (λcs cf _=>he cs cf) W w0 (λi m σc H3 h3=>(turn i m σc H3 h3).imp id λ⟨go,step⟩=>#[go,λx H4 y=>gm _ _ _ _ _ (λσ5 H5 q=>by unfold aRl;dsimp only;rw[Ab1 rfl];exact q) (step x H4 y)])
  λC H' s' m _ hm _ _ hback q=>#[m,hm,λh' hs'=>#[.ref s2.heap.objs.size,H',hback h' hs',rfl,q]]
abbrev aDc(scope sc0:Scope)(cap:#v[12])(N:List Str):Prop:=scope.kind=.function/\(∀y∈scope.names,y.2=.local->scope.names.lookup y.1=some .local)/\
 (∀y∈scope.names,y.2=.free->sc0.names.lookup y.1=some .cell)/\(∀p∈cap,¬(p.1,Er)∈scope.names)/\(∀p∈cap,N[p.2]? =some p.1/\scope.names.lookup p.1=some .free/\sc0.names.lookup p.1=some .cell)
abbrev aWp(scope fsc:Scope)(x:Str):Prop:=scope.names.lookup x=some .cell∨(scope.names.lookup x=some .free/\fsc.names.lookup x=some .cell)
abbrev aH2(isc scope fsc:Scope)(icap:#v[12])(N:List Str):Prop:=isc.kind=.function/\(∀y∈isc.names,y.2≠.cell)/\(∀y∈isc.names,y.2=.local->isc.names.lookup y.1=some .local)/\
 (∀y∈isc.names,y.2=.free->aWp scope fsc y.1)/\(∀p∈icap,N[p.2]? =some p.1/\isc.names.lookup p.1=some .free/\aWp scope fsc p.1)
theorem wB{env:Env}:∀{names:List (Str×Kd)}{x:Str},names.lookup x=some .cell->
  (names.map λ(n,k)=>if(k==Ee && env.scope.kind== .function && env.kindOf n==some .cell)then(n,Er)else(n,k)).lookup x=some .cell
 | [],_,h=>by simp at h
 |(n,k)::r,x,h=>by
  have ih:=@wB env r x;show Hm x ((if(k==Ee && env.scope.kind== .function && env.kindOf n==some .cell)=true then(n,Er)else(n,k))::_)=_;cases hx:x==n with
  |true=>
   simp only[Bu,hx]at h;cases h;rw[Ab0 (by simp)];simp[Bu,hx]
  |false=>
   simp only[Bu,hx]at h;by_cases hcc:(k==Ee && env.scope.kind== .function && env.kindOf n==some .cell)=true
   ·rw[Ab1 hcc];simp only[Bu,hx];exact ih h
   ·rw[Ab0 hcc];simp only[Bu,hx];exact ih h
def aOd(hs:X.env.scope=sc0)(hN:X.N=N0)(hcell:HC X)(ok:aDc scope sc0 cap N0):∃cl,mY X scope cap cl:=by
 subst hs hN;obtain⟨k,nm,fr,cn,cp⟩:=ok;obtain⟨cl,e,a,b⟩:=pQ X.env scope.names [] (λy hy hf=>hcell _ (fr y hy hf)) (λx c h=>by simp at h);refine#[cl,?_,k,nm,a,λx hx=>b x (.inr (Dj hx)),cn,cp];unfold Ra;refine Abc ?_ e;simp only[bind_pure]
def aSn{scope isc fsc:Scope}{s2:Shared}{H2:Hp}(cf:dM X scope cs)(hfs:X.env.scope=fsc)(hk:fsc.kind=.function)(ok:aH2 isc scope fsc icap Nc):
  ∃cl,cZ #v[m] isc icap cl:=by
 subst hfs;obtain⟨k,nc,nm,fr,cp⟩:=ok;have up:∀x,aWp scope X.env.scope x->(relabel scope X.env).names.lookup x=some .cell:=λx h=>by
  rcases h with h|⟨h,h'⟩
  ·exact wB h
  ·exact gW hk h h'
 obtain⟨cl,e,a,b⟩:=pQ #v[m].env isc.names [] (λy hy hf=>cf _ (fr y hy hf)) (λx c h=>by simp at h);refine#[cl,?_,k,nc,nm,a,λx hx=>b x (.inr (Dj hx)),λp hp=>#[(cp p hp).1,(cp p hp).2.1,up _ (cp p hp).2.2]];unfold Ra;refine Abc ?_ e;simp only[bind_pure]
section
variable {X:Cx}{B:St->Hp->Prop}{R:Hp->V->Prop}
end
def aQy(K:Ad):List V->Hp->VK->Prop:=λxs H Q=>∃p ys,xs=[.ref p]/\(SqL K H p ys∨SqT K H p ys)/\∀l,H l=none->Q (.ref l) (upd H l (.lst ys))
def aK8(K:Ad):List V->Hp->VK->Prop:=λxs H Q=>∃p ys,xs=[.ref p]/\((SqL K H p ys/\∀l,H l=none->Q (.ref l) (upd H l (.tup ys)))∨(SqT K H p ys/\Q (.ref p) H))
def eG{X:Cx}{K:Ad}(h:X.K=K):dR X (.type "list") (aQy K):=by
 subst h;exact aDz
def aFy{X:Cx}{K:Ad}(h:X.K=K):dR X (.type "tuple") (aK8 K):=by
 subst h;exact aBv
def aZk(_ j:Int):Prop:=0<j/\j<2 ^ 62
def aA6:OpR X (Jk .FloorDiv) (rI aZk λi j=> .int (i / j)):=opI λi j _ _ _ _ _ hc q=>by
 have h1:(0:Int)<j:=hc.1;have h2:j<2 ^ 62:=hc.2;refine floordiv_int ∅ (by rw[Int.fdiv_eq_ediv_of_nonneg i ∅];exact q) (.inl (PyProof.noPylong_of_log2 ?_));have h3:j.natAbs<2 ^ 62:=by lia
 have:=(Nat.log2_lt ∅).mpr h3
 lia
variable {K:Ad}
def aXr{elt iter tg:Cr}{scope isc:Scope}{s2:Shared}{H2:Hp}{te:TE}(fsc:Scope)(cf:dM X scope cs)(hfs:X.env.scope=fsc)(hk:fsc.kind=.function)
  (ok:aH2 isc scope fsc icap Nc) (hc:X.calm=true) (hi:PI #v[m] tg iter wi)
  (hg:∀cl C' s3 H3 fp',PG (bD #v[m] (cH own icap) isc cl C' s3 H3 fp') tg g) (he:∀cl C' s3 H3 fp',PE (bD #v[m] (cH own icap) isc cl C' s3 H3 fp') elt te)
  (hs:∀x,Qz iter #v[m].env x=pure x:=by intro _;rfl):PE #v[m] (.ListComp elt [#[tg,iter,[],0]] isc pos) (wK own.length icap wi g te):=by
 obtain⟨cl,S⟩:=aSn (C:=C) (s2:=s2) (H2:=H2) (fp:=fp) cf hfs hk ok;exact aK3 S hc hi (hg cl) (he cl) hs
def aG0{x:Str}{elt iter tg:Cr}{pos spos py:Pos}{te:TE}
  (hN:X.N.Nodup) (hi':X.N[i]? =some x) (hx:Loc X.env.scope x) (S:mY X scope cap cl) (hc:X.calm=true) (hi:PI X tg iter wi) (gm:∀x σ H(Q Q':St->Hp->Prop),(∀σ H,Q σ H->Q' σ H)->g x σ H Q->g x σ H Q')
  (hg:∀cs,dM X scope cs->∀C s2 H2 fp,PG #v[h] tg g) (he:∀cs,dM X scope cs->∀C s2 H2 fp,PE #v[h] elt te)
  (hsw:#v[p]:=by rfl)
  (hs:FS X iter:=by intro _;rfl) (hf:FL X x:=by trivial):
  PS X (.Assign [.Name x py] #v[8] spos) (aHj (wK own.length cap wi g te) (pY i)):=by
 intro aa s σ H D I h;rw[Ww _ _ _ _ hsw];refine Aa (Nb (Aa ?_));show Bb _ X.A (do let _<-comprehension #v[8] scope X.env _ (Xz []) false (eval iter X.env) (some (assign (.Name x py) X.env))) _ _ s;refine Aa (Gd (Jz (use:=some (assign (.Name x py) X.env)) (Q:=λ_ s'=>SP X aa D .next s') rfl hs S.clos S.kind S.names
  (thn (hi aa s σ H _ I h) λv s1 h1=>thn h1 λitv s2 h2=>?_)) (λ_ s' hq=>Ac (Ac hq)) λ_ _ e=>e)
 obtain⟨it,fp,tn,J,H2,e,I2,T,st2,f2,rd⟩:=h2;subst e;obtain⟨W,w0,turn⟩:=rd _ (I2.hok.fresh (Ak _));refine sO (Q:=λx H1=>pY i x σ H1 D.nx) (RR:=λaf C=>Yr #v[a] X.A X.xe (some (assign (.Name x py) X.env)) (λ_ s'=>SP X aa D .next s') af C) S hc I2 T st2 f2 (λcs cf _=>hg cs cf) (λ_ _ _ _ _ _ _=>zU) (λcs cf _=>he cs cf) W w0 (λi m σc H3 h3=>(turn i m σc H3 h3).imp id λ⟨go,step⟩=>#[go,λx H4 y=>gm _ _ _ _ _ (λσ5 H5 q=>by unfold aRl;dsimp only;rw[Ab1 rfl];exact q) (step x H4 y)])
  λC H' s' m hCle hm hCn I' hback q=>?_
 refine Qw (yF (v:=.ref s2.heap.objs.size) I' hN hi' hx rfl (λs'' I'' ⟨a,hsa,ha⟩=>?_) hf);have hCa:C≠a:=by
  rcases ha with z|z
  ·rw[z];exact Dc (iH I2.lt hCle)
  ·obtain⟨v,q'⟩:=I2.cell x a z;exact Dc (iH q'.lt hCle)
 refine#[m,hm.sameBut hsa hCa,λh' hs'=>#[_,H',?_,q]];have hC0:X.s₀.heap.objs.size<=C:=Dd I2.sz hCle;have hnp:∀p∈X.pn++aa,p.1≠C:=λp hp=>iH (Aw (I2.pin p hp).1) hCle;have hcl:∀y c,X.env.cells.lookup y=some c->c≠C:=λy c e=>by
  obtain⟨v,q'⟩:=I2.cell y c e;exact iH q'.lt hCle
 have hL:C≠X.env.locals:=Dc (iH I2.lt hCle);exact I''.turned (t':=s''.toks) (it:=C) (λb o hb e=>(hs'.2 b hb).trans e) hCn hL (.inr hC0) hcl hnp
def jW(P:An)(w:Bh)(a:Addr)(xs:List ((Int×List Int)×Addr))(h:Heap):Prop:=∃o es ep t,h.get? a=some o/\o.ExactSet/\o.data=.set es ep t/\es.toList=xs.map (λx=>((cX (Et P w)).hash x.1,As x.2))/\t.Good/\t.place.size=es.size/\(xs.map (·.1)).Nodup/\
 (∀(i j:Nat)(x:(Int×List Int)×Addr),t.place[i]? =some j->xs[i]? =some x->SetTable.uH t ((cX (Et P w)).hash x.1) j)/\t.Small/\t.plain=true/\t.led= !w.params.followText "set-order"
def TKy(H:Hp)(x:List Int×Addr):Prop:=H x.2=some (.tup (x.1.map V.int))
def PKy(H:Hp)(x:(Int×List Int)×Addr):Prop:=∃q,H x.2=some (.tup [.int x.1.1,.ref q])/\TKy H (x.1.2,q)
section
variable {P:An}{w:Bh}{H:Hp}{h:Heap}{a:Addr}{s:Shared}{xs:List ((Int×List Int)×Addr)}
def jW.stay(h1 h2:Heap)(p:jW P w a xs h1)(k:∀o,h1.get? a=some o->h2.get? a=some o):jW P w a xs h2:=let⟨o,es,ep,t,e,c⟩:=p;#[o,es,ep,t,k _ e,c]
def jW.of(I:mC (cX (Et P w)) s a (!w.params.followText "set-order") xs):jW P w a xs s.heap:=by
 obtain⟨o,es,ep,t,S,r1,r2,r3⟩:=I;exact#[o,es,ep,t,S.ho,S.hex,S.hd,S.he,S.good,S.size,S.nd,S.way,r1,r2,r3]
def jW.is(I:jW P w a xs s.heap)(keys:∀x∈xs,bN (Et P w) s.heap x.1 x.2):mC (cX (Et P w)) s a (!w.params.followText "set-order") xs:=by
 obtain⟨o,es,ep,t,a1,a2,a3,a4,a5,a6,a7,a8,r1,r2,r3⟩:=I;exact#[o,es,ep,t,#[a1,a2,a3,a4,a5,a6,keys,a7,a8],r1,r2,r3]
def aNc:∀{us:List Value},Vals (ns.map V.int) us->ItemsAre (Et P w) ns us:=by
 induction ns with
 |nil=>intro us r;rw[Gz]at r;cases r;exact .nil
 |cons n ns ih=>
  intro us r;rw[Bj]at r;cases r with
  |@cons _ v _ _ r1 t=>
   obtain⟨tk,rfl⟩:=r1;exact .cons (by show Mc n (.int n tk)=true;simp[Mc]) (ih t)
def aUi{x:List Int×Addr}(ok:HOk P w H h)(e:TKy H x):Kq (Et P w) h x.1 x.2:=by
 obtain⟨_,ab,r,o,h1,h2,n,h3⟩:=(show bO P w H h x.2 (.tup (x.1.map V.int))from ok _ _ e);exact#[o,ab.toArray,n,h1,h2,h3,aNc r]
def zT{x:(Int×List Int)×Addr}(ok:HOk P w H h)(e:PKy H x):bN (Et P w) h x.1 x.2:=by
 obtain⟨q,e1,e2⟩:=e;obtain⟨_,ab,r,o,h1,h2,n,h3⟩:=(show bO P w H h x.2 (.tup [.int x.1.1,.ref q])from ok _ _ e1);obtain⟨u,v,rfl,ru,rv⟩:=vals2 r;obtain⟨tk,rfl⟩:=ru;obtain rfl:v=As q:=rv;exact#[o,_,q,n,h1,h2,h3,(by show Mc _ (.int _ tk)=true;simp[Mc]),aUi ok e2]
end
theorem aBn:∀{ps:List ((Int×List Int)×Addr)}{us:List Value},Vals (ps.map λx=>V.ref x.2) us->us=ps.map λx=>As x.2
 | [],_,.nil=>rfl
 |_::_,_,.cons (r1:_=As _) t=>by subst r1;rw[Bj,aBn t]
theorem aBm:∀{ps:List ((Int×List Int)×Addr)},Vals (ps.map λx=>V.ref x.2) (ps.map λx=>As x.2)
 | []=> .nil
 |_::_=> .cons rfl aBm
inductive aNy(P:An)(w:Bh)(K:Ad)(xs:List V)(H:Hp)(Q:VK):Prop
 |mk (p:Addr) (ps:List ((Int×List Int)×Addr)) (q0_:xs=[.ref p]) (q1_:SqL K H p (ps.map λx=>V.ref x.2)) (q2_:(∀x∈ps,PKy H x)) (q3_:ps.length<=1000) (q4_:(∃ks:List (Int×List Int),ks.length<4/\∀x∈ps,x.1∈ks)) (q5_:∀(l:Addr)(zs:List ((Int×List Int)×Addr)),H l=none->(zs.map (·.1)).Nodup->(∀x∈zs,x∈ps)->(∀x∈ps,∃z∈zs,z.1=x.1)->zs.length<=ps.length->Q (.ref l) (upd H l (.ext (jW P w l zs)))):aNy P w K xs H Q
def bA9(P:An)(w:Bh)(K:Ad):List V->Hp->VK->Prop:=λxs H Q=>aNy P w K xs H Q
inductive aCf(P:An)(w:Bh)(xs:List V)(H:Hp)(Q:VK):Prop
 |mk (p:Addr) (ps:List ((Int×List Int)×Addr)) (q0_:xs=[.ref p]) (q1_:H p=some (.ext (jW P w p ps))) (q2_:(∀x∈ps,PKy H x)) (q3_:ps.length<64) (q4_:∀(l:Addr)(ys:List ((Int×List Int)×Addr)),H l=none->ys.Perm ps->ys.Pairwise (λx y=>xM x.1 y.1=true)->Q (.ref l) (upd H l (.lst (ys.map λx=>V.ref x.2)))):aCf P w xs H Q
def aQ1(P:An)(w:Bh):List V->Hp->VK->Prop:=λxs H Q=>aCf P w xs H Q
def aCo(hu:X.A.units+20<cLine)(hc:X.calm=true):dR X (.type "set") (bA9 X.prog X.w X.K):=by
 intro aa s σ H xs us Q I r h;obtain⟨p,ps,rfl,hq,hk,hln,⟨ks,kl,km⟩,q⟩:=h;obtain⟨u,rfl,ru⟩:=vals1 r;cases ru;obtain⟨ab,rv,pl,hz⟩:=I.list hq;have ei:=aBn rv;have hlen:ab.length=ps.length:=by rw[ei,Ab]
 have at_:∀i,i<ps.length->ps.getD i ((0,[]),0)∈ps:=λi hi=>by simp[Ma,hi]
 refine aAo (knd:=cX (Et X.prog X.w)) (items:=ab.toArray) (val:=λi=>(ps.getD i ((0,[]),0)).1) (adr:=λi=>(ps.getD i ((0,[]),0)).2) (aQi λk v hv=>?_) (λA' hA=>?_) (I.ok.hd hc) pl.isList (λi v hv=>?_) (λj hj=>?_) (λi xs hi M nd=>?_) λh' tk zs S M hk'=>?_
 ·obtain⟨t,rfl⟩:=Gk hv;exact#[_,_,rfl]
 ·show A'.units+1<cLine
  lia
 ·have hi:i<ab.toArray.size:=(Lh.mp hv).1;rw[Al,hlen]at hi;rw[List.getElem?_toArray,ei]at hv;simp[hi]at hv;rw[<-hv];simp[Ma,hi]
 ·rw[Al,hlen]at hj;exact zT I.hok (hk _ (at_ j hj))
 ·rw[Al,hlen]at hi;have:=nd.length_le_of_subset (l₂:=ks) λk hk=>by
   obtain⟨x,hx,rfl⟩:=Aj.mp hk;obtain⟨j,hj,e⟩:=M.from' x hx;rw[e];exact km _ (at_ j ∅)
  rw[Ab]at this
  lia
 ·have kp:∀b o,s.heap.get? b=some o->h'.get? b=some o:=λb o e=>hk' b o (Aw e) e;have so:=jW.of S;have nd:(zs.map (·.1)).Nodup:=by obtain⟨_,_,_,_,S,_⟩:=S;exact S.nd
  refine#[.ref #v[0],_,I.laid (t':=tk) (o:=.ext (jW X.prog X.w #v[0] zs)) kp (Ak _) #[so,?_,λh1 h2 p k=>jW.stay h1 h2 p k],rfl,q _ zs (I.hok.fresh (Ak _)) nd (λx hx=>?_) (λx hx=>?_) ?_]
  ·obtain⟨o,_,_,_,e,_⟩:=so;exact#[o,e]
  ·obtain⟨j,hj,e⟩:=M.from' x hx;rw[Al,hlen]at hj;rw[e];exact at_ j hj
  ·obtain⟨j,hj,e⟩:=Hn hx;obtain⟨z,hz,ez⟩:=M.all j (by rw[Al,hlen];exact hj);refine#[z,hz,?_];rw[ez, <-e];simp[Ma,hj]
  ·have:=M.len;rw[Al,hlen]at this;exact this
def aD1(hu:X.A.units+40<cLine)(hc:X.calm=true):dR X (.builtin "sorted") (aQ1 X.prog X.w):=by
 intro aa s σ H xs us Q I r h;obtain⟨p,ps,rfl,hp,hk,h64,q⟩:=h;obtain⟨u,rfl,ru⟩:=vals1 r;cases ru;obtain⟨so,_,_⟩:=(show bO X.prog X.w H s.heap p (.ext (jW X.prog X.w p ps))from I.hok p _ hp);refine aJt (aTn λk v hv=>by obtain⟨t,rfl⟩:=Gk hv;exact#[_,_,rfl]) ∅ (I.ok.hd hc) (so.is λx hx=>zT I.hok (hk x hx)) (λ_ _=>trivial) h64 λh' tk l e ys py hy hl hg kp=>?_;refine#[.ref l,_,I.laid (t':=tk) (o:=.lst (ys.map λx=>V.ref x.2)) kp hl #[?_,_,e,aBm,hg],rfl,q l ys (I.hok.fresh hl) py hy];rw[Ab,py.length_eq,Es]
 lia
def aCg(w:Bh)(a:Addr)(x:Nat)(b:Bool)(h:Heap):Prop:=∃o ep tk,h.get? a=some o/\o.ExactSet/\o.data=.set (lJ (zs1 x b) tk) ep (aB9 (!w.params.followText "set-order") (zs1 x b))
def yQ(l:List Nat):List V:=l.map λk:Nat=> .int (k:Int)
inductive aNw(w:Bh)(K:Ad)(xs:List V)(H:Hp)(Q:VK):Prop
 |mk (p:Addr) (ns:List Nat) (x:Nat) (q0_:xs=[.ref p]) (q1_:SqL K H p (yQ ns)) (q2_:(∀n∈ns,n=x)) (q3_:x∈[1,2,3]) (q4_:∀l:Addr,H l=none->Q (.ref l) (upd H l (.ext (aCg w l x (decide (0<ns.length)))))):aNw w K xs H Q
def bA7(w:Bh)(K:Ad):List V->Hp->VK->Prop:=λxs H Q=>aNw w K xs H Q
inductive aCe(w:Bh)(xs:List V)(H:Hp)(Q:VK):Prop
 |mk (p:Addr) (x:Nat) (b:Bool) (q0_:xs=[.ref p]) (q1_:H p=some (.ext (aCg w p x b))) (q2_:x∈[1,2,3]) (q3_:∀l,H l=none->Q (.ref l) (upd H l (.lst (yQ (zs1 x b))))):aCe w xs H Q
def aQ0(w:Bh):List V->Hp->VK->Prop:=λxs H Q=>aCe w xs H Q
theorem aHo{x:Nat}:∀{ns:List Nat}{us:List Value},(∀n∈ns,n=x)->Vals (yQ ns) us->∀(i:Nat)(v:Value),us[i]? =some v->∃t,v=.int x t
 | [],_,_,.nil,i,v,h=>by simp at h
 |n::ns,u::us,hn,.cons r t,0,v,h=>by
  obtain⟨tk,e⟩:=r;have:u=v:=by simpa using h
  exact#[tk,by rw[<-this,e, <-hn n Ah]]
 |n::ns,u::us,hn,.cons r t,i+1,v,h=>aHo (λm hm=>hn m (Af _ hm)) t i v (by simpa using h)
def aLt(hc:X.calm=true):dR X (.type "set") (bA7 X.w X.K):=by
 intro aa s σ H xs us Q I r h;obtain⟨p,ns,x,rfl,hq,hn,h3,q⟩:=h;obtain⟨u,rfl,ru⟩:=vals1 r;cases ru;obtain⟨ab,rv,pl,hz⟩:=I.list hq;have hlen:ab.length=ns.length:=by rw[<-Vals.length rv];unfold yQ;rw[Ab]
 refine aAn (items:=ab.toArray) (I.ok.hd hc) pl.isList (λi v hv=>aHo hn rv i v (by simpa using hv)) h3 λh' tk S kp'=>?_;have kp:∀b o,s.heap.get? b=some o->h'.get? b=some o:=λb o e=>kp' b o (Aw e) e;rw[show ab.toArray.size=ns.length by rw[Al,hlen]]at S;have so:aCg X.w #v[0] x (decide (0<ns.length)) h':=S;refine#[.ref #v[0],_,I.laid (t':=tk) (o:=.ext (aCg X.w #v[0] _ _)) kp (Ak _) #[so,?_,λh1 h2 p k=>?_],rfl,q _ (I.hok.fresh (Ak _))]
 ·obtain⟨o,_,_,e,_⟩:=so;exact#[o,e]
 ·obtain⟨o,ep,tk,e,c⟩:=p;exact#[o,ep,tk,k _ e,c]
def aD0(hc:X.calm=true):dR X (.builtin "sorted") (aQ0 X.w):=by
 intro aa s σ H xs us Q I r h;obtain⟨p,x,b,rfl,hp,hx,q⟩:=h;obtain⟨u,rfl,ru⟩:=vals1 r;cases ru;obtain⟨so,_,_⟩:=(show bO X.prog X.w H s.heap p (.ext (aCg X.w p x b))from I.hok p _ hp);obtain⟨o,ep,tk,ho,hex,hd⟩:=so;have l3:(zs1 x b).length<=1:=by cases b<;>simp[zs1]
 refine Rm kind_sorted plain_sorted entry_sorted (args_sorted1 _) ?_;unfold Builtin.«sorted»;refine Aa (m:=checkCount "sorted" 1 1 _) (Ac ?_);have rise:SetTable.uP (aB9 (!X.w.params.followText "set-order") (zs1 x b)).place:=by
  intro i j h1 h2;have:j<1:=Bn h2 (by show(zs1 x b).toArray.size<=1;rw[Al];exact l3)
  lia
 refine Aa (oR (by simpa using I.ok.hd hc) ho hex hd (aOz hx) rise rfl rfl (by have:=aWd (x:=x) b tk;rw[Es];lia) λh' tk' s1 hk=>?_);have ey:gZ X.w p (lJ (zs1 x b) tk) ep=(zs1 x b).map λz:Nat=>Ey (z:Int) (tk z):=by
  have:=lN X.w p (lJ (zs1 x b) tk) ep;cases b
  ·exact this.eq_nil
  ·exact Vf.mp this
 rw[ey];have hi:Nm ((zs1 x b).map λz:Nat=>Ey (z:Int) (tk z)) ((zs1 x b).map λz:Nat=>(z:Int)):=by
  cases b
  ·exact .nil
  ·exact .cons _ _ .nil
 generalize ((zs1 x b).map λz:Nat=>Ey (z:Int) (tk z))=vs at hi;have hal:vs.length=(zs1 x b).length:=by rw[hi.length,Ab]
 refine Aa (Vm ?_ (by rw[Es];lia));have hoL:(h'.push (Ki "list" vs.toArray 0)).get? h'.objs.size=some (Ki "list" vs.toArray 0):=Au _ rfl;refine Aa (Ce (Bw slot_list_sort #[_,hoL,rfl] entry_list_sort (list_sort_tree hoL hi ∅ λout ms a1 a2 a3=>#[_,rfl,?_]) (args_list_sort _)));refine Ac #[_,rfl,?_];obtain⟨e,he⟩:=sortedHeap_at (vs:=vs) (out:=out) hoL;have hsz:h'.objs.size<(h'.push (Ki "list" vs.toArray 0)).objs.size:=by rw[Df];exact Gy _
 have keep:∀b o,s.heap.get? b=some o->(Uw (h'.push (Ki "list" vs.toArray 0)) h'.objs.size vs out).get? b=some o:=λb o eb=>by
  have e1:=hk b o eb;have hlt:=Aw e1;rw[sortedHeap_old (Bc hlt) (Nk hlt hsz)];exact Ae _ e1
 have hge:#v[0]<=h'.objs.size:=Gn s1;have es:ms=(zs1 x b).map λz:Nat=>(z:Int):=by
  cases b
  ·exact a2.eq_nil
  ·exact Vf.mp a2
 have en:ms.map V.int=yQ (zs1 x b):=by rw[es,Ba];rfl
 refine#[.ref h'.objs.size,_,I.laid (t':=tk') (o:=.lst (ms.map V.int)) keep hge #[?_,out.toList,e,vJ a1,by simpa using he],rfl,by rw[en];exact q _ (I.hok.fresh hge)];rw[Ab,a2.length_eq,Ab,Es]
 lia
structure Dis(P:An)(w:Bh)(K:Ad)(mg:Str->#v[10])(base:Heap)(CX:CXT)(k:Nat)(Cs:Addr->Prop)(m:Str)(ps:List Str)(sp:Addr->Sp):Prop where
 ex:∀C,Cs C->Cls K C/\∃f fd,Meth K C m f/\bJ P w K mg base CX k f fd ps (sp C)/\Binds K fd ps []
def aRj(Cs:Addr->Prop)(m:Str)(sp:Addr->Sp)(E:XK)(ta:TE)(t:TA):TE:=λσ H Q=>ta σ H λx H1=>∃a C dx fs,x=.ref a/\H1 a=some (.ins C dx fs)/\Cs C/\fs.lookup m=none/\t σ H1 λvs H2=>sp C (.ref a::vs) H2 Q E
section
variable {X:Cx}{CX:CXT}{k:Nat}{Cs:Addr->Prop}{m:Str}{ps:List Str}{sp:Addr->Sp}{E:XK}{o e:Cr}{es:List Cr}{ta:TE}{t:TA}{apos pos:Pos}
def aQp(he:PE X o ta)(D:Dis X.prog X.w X.K X.mg X.base CX k Cs m ps sp)(hr:eZ k X.A)(hx:rW CX X E)(ha:PA X (e::es) t)
  (hst:SE X e es:=by rfl) (hpl:BT X pos es:=by rfl)
  (ht:eval (.Call (.Attribute o m apos) (e::es) [] pos) X.env=(do
   let ov<-eval o X.env
   Ph apos.atName
   let(f,first)<-holding [ov] (Qb ov m pl)
   Yt pos f first (Np pos (Ca (e::es) X.env)) (Gx pos (Ed [] X.env))):=by rfl):
  PE X (.Call (.Attribute o m apos) (e::es) [] pos) (aRj Cs m sp E ta t):=by
 intro aa s σ H Q I h;refine Sf (pl:=pl) (thn (he aa s σ H _ I h) λu s1 ⟨x,H1,I1,rx,a,C,dx,fs,ex,ea,hC,l,q⟩=>?_) ht;subst ex;obtain rfl:u=As a:=rx;obtain⟨c,f,fd,hm,F,hb⟩:=D.ex C hC;refine aAx I1 ea c hm l ?_;refine Nv (first:=[.ref a]) (h₀:=X.base) I.ok.mod.kin hm.kp (thn (ha pos aa s1 σ H1 _ I1 q) λus s2 ⟨vs,H2,I2,r,q2⟩=>#[I2.kIn,?_]) hst hpl;exact aJm (us:=.ref a::us) (vs:=.ref a::vs) F hr hb .nil hx I2 (.cons rfl r) (by rw[Bk];exact q2)
def aM1(he:PE X o ta)(D:Dis X.prog X.w X.K X.mg X.base CX k Cs m ps sp)(hr:eZ k X.A)(hx:rW CX X E)
  (ht:eval (.Call (.Attribute o m apos) [] [] pos) X.env=(do
   let ov<-eval o X.env
   Ph apos.atName
   let(f,first)<-holding [ov] (Qb ov m pl)
   Yt pos f first (Np pos (Ca [] X.env)) (Gx pos (Ed [] X.env))):=by rfl):
  PE X (.Call (.Attribute o m apos) [] [] pos) (aRj Cs m sp E ta aJw):=by
 intro aa s σ H Q I h;refine Sf (pl:=pl) (thn (he aa s σ H _ I h) λu s1 ⟨x,H1,I1,rx,a,C,dx,fs,ex,ea,hC,l,q⟩=>?_) ht;subst ex;obtain rfl:u=As a:=rx;obtain⟨c,f,fd,hm,F,hb⟩:=D.ex C hC;refine aAx I1 ea c hm l ?_;exact PySem.W.callWith_K0 (first:=[.ref a]) I1.kIn hm.kp (aJm (us:=[.ref a]) (vs:=[.ref a]) F hr hb .nil hx I1 (.cons rfl .nil) q)
end
variable {o e:Cr}{td ty:TE}
structure Opq where
 φ:(Addr->Prop)->(Addr->Prop)->Hp->V->Prop
 mono:∀{W B B' H H'}{v:V},(∀b o,¬B b->H b=some o->¬B' b/\H' b=some o)->φ W B H v->φ W B' H' v
 wm:∀{W W' B H}{v:V},(∀p,W p->W' p)->φ W B H v->φ W' B H v
inductive U where
 |v (x:V)
 |tp (l:List U)
 |ls (l:List U)
 |ob (C:Addr) (ns:List Str) (us:List U)
 |dk (ns:List Str) (us:List U)
 |op (o:Opq)
 |wl
abbrev U.n(i:Int):U:=.v (.int i)
abbrev U.b(c:Bool):U:=.v (.bl c)
abbrev U.s(x:Str):U:=.v (.str x)
abbrev U.no:U:=.v .non
def Wll(H:Hp)(a:Addr):Prop:=∃x y z:Int,H a=some (.lst [.int x,.int y,.int z])
section
variable (W B:Addr->Prop)(H:Hp)
mutual
def DU:U->V->Prop
 |.v x,y=>y=x/\rO x=true
 |.tp l,y=>∃p xs,y=.ref p/\¬B p/\H p=some (.tup xs)/\DUs l xs
 |.ls l,y=>∃p xs,y=.ref p/\¬B p/\H p=some (.lst xs)/\DUs l xs
 |.ob C ns us,y=>∃p dx xs,y=.ref p/\¬B p/\H p=some (.ins C dx (ns.zip xs))/\ns.length=xs.length/\DUs us xs
 |.dk ns us,y=>∃p xs,y=.ref p/\¬B p/\H p=some (.dK ((ns.map Oi).zip xs))/\ns.length=xs.length/\DUs us xs
 |.op o,y=>o.φ W B H y
 |.wl,y=>∃p,y=.ref p/\W p
def DUs:List U->List V->Prop
 | [],xs=>xs=[]
 |u::l,xs=>∃x r,xs=x::r/\DU u x/\DUs l r
end
end
section
variable {W B B':Addr->Prop}{H H':Hp}
mutual
theorem DU.mono(k:∀b o,¬B b->H b=some o->¬B' b/\H' b=some o):∀(u:U){v:V},DU W B H u v->DU W B' H' u v
 |.v _,_,h=>h
 |.tp l,_,⟨p,xs,e,nb,hp,t⟩=>#[p,xs,e,(k _ _ nb hp).1,(k _ _ nb hp).2,DUs.mono k l t]
 |.ls l,_,⟨p,xs,e,nb,hp,t⟩=>#[p,xs,e,(k _ _ nb hp).1,(k _ _ nb hp).2,DUs.mono k l t]
 |.ob _ _ us,_,⟨p,dx,xs,e,nb,hp,hl,t⟩=>#[p,dx,xs,e,(k _ _ nb hp).1,(k _ _ nb hp).2,hl,DUs.mono k us t]
 |.dk _ us,_,⟨p,xs,e,nb,hp,hl,t⟩=>#[p,xs,e,(k _ _ nb hp).1,(k _ _ nb hp).2,hl,DUs.mono k us t]
 |.op o,_,h=>o.mono k h
 |.wl,_,h=>h
theorem DUs.mono(k:∀b o,¬B b->H b=some o->¬B' b/\H' b=some o):∀(l:List U){xs:List V},DUs W B H l xs->DUs W B' H' l xs
 | [],_,h=>h
 |u::l,_,⟨x,r,e,h,t⟩=>#[x,r,e,DU.mono k u h,DUs.mono k l t]
end
def DUs.length:∀{l:List U}{xs:List V},DUs W B H l xs->l.length=xs.length
 | [],_,h=>by rw[show _=[]from h];rfl
 |_::_,_,⟨_,_,e,_,t⟩=>by rw[e,Ao,Ao,DUs.length t]
def DUs.get:∀{l:List U}{xs:List V}{i:Nat}{u:U},DUs W B H l xs->l[i]? =some u->∃x,xs[i]? =some x/\DU W B H u x
 | [],_,_,_,_,e=>by simp at e
 |_::_,_,0,_,⟨x,_,e,h,_⟩,q=>by simp at q;subst q e;exact#[x,rfl,h]
 |_::_,_,i+1,_,⟨_,_,e,_,t⟩,q=>by
  obtain⟨y,h1,h2⟩:=DUs.get (i:=i) t (by simpa using q);exact#[y,by rw[e];simpa using h1,h2]
def DUs.getV{l:List U}{xs:List V}{x:V}(h:DUs W B H l xs)(e:xs[i]? =some x):∃u,l[i]? =some u/\DU W B H u x:=by
 have hi:i<l.length:=by rw[h.length];exact(Ay.mp e).1
 obtain⟨y,h1,h2⟩:=h.get (Ag hi);rw[e]at h1;cases h1;exact#[_,Ag hi,h2]
def DUs.app:∀{l m:List U}{xs ys:List V},DUs W B H l xs->DUs W B H m ys->DUs W B H (l++m) (xs++ys)
 | [],_,_,_,h,t=>by rw[show _=[]from h];exact t
 |_::_,_,_,_,⟨x,r,e,h,t⟩,t'=>#[x,_,by rw[e];rfl,h,DUs.app t t']
def DUs.drop:∀{l:List U}{xs:List V}(i:Nat),DUs W B H l xs->DUs W B H (l.drop i) (xs.drop i)
 |_,_,0,h=>h
 | [],_,_+1,h=>by rw[show _=[]from h];rfl
 |_::_,_,i+1,⟨_,_,e,_,t⟩=>by rw[e];exact DUs.drop i t
def DUs.take:∀{l:List U}{xs:List V}(i:Nat),DUs W B H l xs->DUs W B H (l.take i) (xs.take i)
 |_,_,0,_=>rfl
 | [],_,_+1,h=>by rw[show _=[]from h];rfl
 |_::_,_,i+1,⟨x,_,e,h,t⟩=>by rw[e];exact#[x,_,rfl,h,DUs.take i t]
def DUs.one{x:V}(h:DU W B H u x):DUs W B H [u] [x]:=#[x,[],rfl,h,rfl]
end
section
variable {W W' B:Addr->Prop}{H:Hp}
mutual
theorem DU.wm(k:∀p,W p->W' p):∀(u:U){v:V},DU W B H u v->DU W' B H u v
 |.v _,_,h=>h
 |.tp l,_,⟨p,xs,e,nb,hp,t⟩=>#[p,xs,e,nb,hp,DUs.wm k l t]
 |.ls l,_,⟨p,xs,e,nb,hp,t⟩=>#[p,xs,e,nb,hp,DUs.wm k l t]
 |.ob _ _ us,_,⟨p,dx,xs,e,nb,hp,hl,t⟩=>#[p,dx,xs,e,nb,hp,hl,DUs.wm k us t]
 |.dk _ us,_,⟨p,xs,e,nb,hp,hl,t⟩=>#[p,xs,e,nb,hp,hl,DUs.wm k us t]
 |.op o,_,h=>o.wm k h
 |.wl,_,⟨p,e,h⟩=>#[p,e,k p h]
theorem DUs.wm(k:∀p,W p->W' p):∀(l:List U){xs:List V},DUs W B H l xs->DUs W' B H l xs
 | [],_,h=>h
 |u::l,_,⟨x,r,e,h,t⟩=>#[x,r,e,DU.wm k u h,DUs.wm k l t]
end
end
structure Fw(W:Addr->Prop)(H H':Hp):Prop where
 fr:∀b o,¬W b->H b=some o->H' b=some o
 wo:∀p,W p->Wll H' p
def Fw.trans{H H1 H2:Hp}(a:Fw W H H1)(b:Fw W H1 H2):Fw W H H2:=#[λc o n h=>b.fr c o n (a.fr c o n h),b.wo]
def Mt:HO->Prop
 |.lst _=>True
 |.ext _=>True
 |.dK _=>True
 |.tbl _=>True
 |_=>False
structure EB(W B:Addr->Prop)(H:Hp):Prop where
 bl:∀p,B p->∃o,H p=some o/\Mt o
 wb:∀p,W p->B p
 wo:∀p,W p->Wll H p
structure Own where
 φ:(Addr->Prop)->(Addr->Prop)->(Addr->Prop)->Hp->Addr->Prop
 mono:∀{W B B' S H H'}{p:Addr},(∀b o,¬B b->H b=some o->¬B' b/\H' b=some o)->(∀b,S b->H' b=H b)->φ W B S H p->φ W B' S H' p
 wm:∀{W W' B S H}{p:Addr},(∀p,W p->W' p)->φ W B S H p->φ W' B S H p
 th:∀{W B S H}{p:Addr},φ W B S H p->∀b,S b->∃o,H b=some o/\Mt o
def Own.fz(o:Own):Opq:=#[λW B H v=>∃p S,v=.ref p/\(∀b,S b->¬B b)/\o.φ W B S H p,λk ⟨p,S,e,n,h⟩=>#[p,S,e,λb hb=>let⟨x,q,_⟩:=o.th h b hb;(k b x (n b hb) q).1,o.mono k (λb hb=>let⟨x,q,_⟩:=o.th h b hb;(k b x (n b hb) q).2.trans q.symm) h],λk ⟨p,S,e,n,h⟩=>#[p,S,e,n,o.wm k h]]
def bCk:Opq:=#[λ_ _ _ _=>True,λ_ _=>trivial,λ_ _=>trivial]
inductive Sl where
 |no
 |sh (u:U)
 |ow (l:List U)
 |br (l:List U)
 |oo (o:Own)
 |bo (o:Own)
abbrev EV:=List Sl
def Sl.rd:Sl->U
 |.sh u=>u
 |.ow l=> .ls l
 |.br l=> .ls l
 |.no=> .wl
 |_=> .op bCk
def Sl.es:Sl->(U->Prop)->Prop
 |.sh u,R=>R u
 |.ow l,R=>R (.ls l)
 |.oo o,R=>R (.op o.fz)
 |_,_=>False
def lsO(l:List U):Own:=#[λW B S H p=>(∀b,S b↔b=p)/\∃xs,H p=some (.lst xs)/\DUs W B H l xs,λk e ⟨s,xs,h,d⟩=>#[s,xs,(e _ ((s _).mpr rfl)).trans h,DUs.mono k l d],λk ⟨s,xs,h,d⟩=>#[s,xs,h,DUs.wm k l d],λ⟨s,_,h,_⟩ b hb=>by rw[(s b).mp hb];exact#[_,h,trivial]]
def Sl.hold:Sl->Option Own
 |.ow l=>some (lsO l)
 |.br l=>some (lsO l)
 |.oo o=>some o
 |.bo o=>some o
 |_=>none
section
variable (W B:Addr->Prop)(H H':Hp)
def RO:Sl->V->Prop
 |.sh u,y=>DU W B H' u y
 |.ow l,y=>∃p xs,y=.ref p/\H p=none/\H' p=some (.lst xs)/\DUs W (λb=>B b∨b=p) H' l xs
 |.br l,y=>∃p xs,y=.ref p/\¬W p/\H' p=some (.lst xs)/\DUs W B H' l xs
 |.oo o,y=>∃p S,y=.ref p/\(∀b,S b->H b=none)/\o.φ W (λb=>B b∨S b) S H' p
 |.bo o,y=>∃p S,y=.ref p/\(∀b,S b->¬W b)/\o.φ W B S H' p
 |.no,_=>False
def DB(u:U)(y:V):Prop:=DU W B H u y∨∃l p xs,u=.ls l/\y=.ref p/\¬W p/\H p=some (.lst xs)/\DUs W B H l xs
structure EE(ρ:EV)(σ:St):Prop where
 eb:EB W B H
 len:ρ.length=σ.length
 sh:∀(i:Nat)(u:U),ρ[i]? =some (Sl.sh u)->∃v,σ[i]? =some (some v)/\DU W B H u v
 hd:∀(i:Nat)(s:Sl)(o:Own),ρ[i]? =some s->s.hold=some o->∃p S,σ[i]? =some (some (V.ref p))/\(∀b,S b->¬W b)/\o.φ W B S H p
end
def EE.ow{W B:Addr->Prop}{H:Hp}{σ:St}(e:EE W B H ρ σ)(i:Nat)(l:List U)(h:ρ[i]? =some (Sl.ow l)∨ρ[i]? =some (Sl.br l)):∃p xs,σ[i]? =some (some (V.ref p))/\¬W p/\H p=some (.lst xs)/\DUs W B H l xs:=by
 obtain⟨p,S,h1,h2,s,xs,h3⟩:∃p S,σ[i]? =some (some (V.ref p))/\(∀b,S b->¬W b)/\(lsO l).φ W B S H p:=h.elim (λh=>e.hd i _ _ h rfl) λh=>e.hd i _ _ h rfl;exact#[p,xs,h1,h2 p ((s p).mpr rfl),h3]
section
variable {W B:Addr->Prop}{H H' H2:Hp}{ρ:EV}{σ:St}
def EB.keep(e:EB W B H)(f:Fw W H H'):∀b o,¬B b->H b=some o->¬B b/\H' b=some o:=λb o n h=>#[n,f.fr b o (λw=>n (e.wb b w)) h]
def EB.dm(e:EB W B H):∀p,B p->H p≠none:=λp h n=>by
 obtain⟨xs,q,_⟩:=e.bl p h;rw[q]at n;cases n
def EB.to(e:EB W B H)(f:Fw W H H'):EB W B H':=by
 refine#[λp hp=>?_,e.wb,f.wo];by_cases w:W p
 ·obtain⟨x,y,z,q⟩:=f.wo p w;exact#[_,q,trivial]
 ·obtain⟨xs,q,m⟩:=e.bl p hp;exact#[xs,f.fr p _ w q,m]
def EB.refl(e:EB W B H):Fw W H H:=#[λ_ _ _ h=>h,e.wo]
def EB.new(e:EB W B H){o:HO}(n:H p=none):Fw W H (upd H p o):=⟨λb u _ h=>by
 rw[aN (aR h n)];exact h,λq hq=>by
 obtain⟨x,y,z,h⟩:=e.wo q hq;exact#[x,y,z,by rw[aN (aR h n)];exact h]⟩
def EB.nw(e:EB W B H)(n:H p=none):¬B p:=λh=>e.dm p h n
def EB.same(e:EB W B H)(s:aZs H H'):Fw W H H':=⟨λb o _ h=>s b o h,λp hp=>by
 obtain⟨x,y,z,h⟩:=e.wo p hp;exact#[x,y,z,s _ _ h]⟩
def Own.to(o:Own){S:Addr->Prop}(e:EB W B H)(f:Fw W H H')(n:∀b,S b->¬W b)(h:o.φ W B S H p):o.φ W B S H' p:=o.mono (e.keep f) (λb hb=>let⟨x,q,_⟩:=o.th h b hb;(f.fr b x (n b hb) q).trans q.symm) h
def Own.less(o:Own)(h:o.φ W (λb=>B b∨T b) S H p):o.φ W B S H p:=o.mono (λ_ _ n h=>#[λz=>n (.inl z),h]) (λ_ _=>rfl) h
def EE.to(e:EE W B H ρ σ)(f:Fw W H H'):EE W B H' ρ σ:=
 #[e.eb.to f,e.len,λi u h=>let⟨v,h1,h2⟩:=e.sh i u h;#[v,h1,DU.mono (e.eb.keep f) u h2],λi s o h hs=>let⟨p,S,h1,h2,h3⟩:=e.hd i s o h hs;#[p,S,h1,h2,o.to e.eb f h2 h3]]
def Fw.none_(f:Fw W H H')(n1:H' p=none):H p=none:=by
 cases hp:H p with
 |none=>rfl
 |some o=>
  by_cases w:W p
  ·obtain⟨_,_,_,z⟩:=f.wo p w;rw[z]at n1;cases n1
  ·rw[f.fr p o w hp]at n1;cases n1
def RO.back(f:Fw W H H')(h:RO W B H' H2 s v):RO W B H H2 s v:=by
 match s,h with
 |.sh u,h=>exact h
 |.ow l,⟨p,xs,e1,n1,h2,h3⟩=>exact#[p,xs,e1,f.none_ n1,h2,h3]
 |.br l,h=>exact h
 |.oo o,⟨p,S,e1,n1,h⟩=>exact#[p,S,e1,λb hb=>f.none_ (n1 b hb),h]
 |.bo o,h=>exact h
def DB.to(h:DB W B H u v)(e:EB W B H)(f:Fw W H H'):DB W B H' u v:=by
 rcases h with h|⟨l,p,xs,e1,e2,w,h1,h2⟩
 ·exact .inl (DU.mono (e.keep f) u h)
 ·exact .inr #[l,p,xs,e1,e2,w,f.fr _ _ w h1,DUs.mono (e.keep f) l h2]
def DUs.less{xs:List V}(h:DUs W (λb=>B b∨b=p) H l xs):DUs W B H l xs:=DUs.mono (λ_ _ n e=>#[λz=>n (.inl z),e]) l h
def RO.db(e:EB W B H)(h:RO W B H H' s v):DB W B H' s.rd v:=by
 match s,h with
 |.sh u,h=>exact .inl h
 |.ow l,⟨p,xs,e1,h1,h2,h3⟩=>exact .inl #[p,xs,e1,e.nw h1,h2,h3.less]
 |.br l,⟨p,xs,e1,h1,h2,h3⟩=>exact .inr #[l,p,xs,rfl,e1,h1,h2,h3]
 |.oo _,_=>exact .inl trivial
 |.bo _,_=>exact .inl trivial
def RO.du{R:U->Prop}(e:EB W B H)(h:RO W B H H' s v)(r:s.es R):∃u,R u/\DU W B H' u v:=by
 match s,h,r with
 |.sh u,h,r=>exact#[u,r,h]
 |.ow l,⟨p,xs,e1,h1,h2,h3⟩,r=>exact#[.ls l,r,p,xs,e1,e.nw h1,h2,h3.less]
 |.oo o,⟨p,S,e1,h1,h2⟩,r=>exact#[.op o.fz,r,p,S,e1,λb hb=>e.nw (h1 b hb),o.less h2]
def DB.int{i:Int}(h:DB W B H (.n i) y):y=.int i:=by
 rcases h with h|⟨l,p,xs,e1,_⟩
 ·exact h.1
 ·cases e1
def DB.fl{x y:V}(h:DB W B H (.v x) y):y=x/\rO x=true:=by
 rcases h with h|⟨l,p,xs,e1,_⟩
 ·exact h
 ·cases e1
def DB.tp(h:DB W B H (.tp l) y):∃p xs,y=.ref p/\¬B p/\H p=some (.tup xs)/\DUs W B H l xs:=by
 rcases h with h|⟨l,p,xs,e1,_⟩
 ·exact h
 ·cases e1
def DB.ob(h:DB W B H (.ob C ns us) y):∃p dx xs,y=.ref p/\¬B p/\H p=some (.ins C dx (ns.zip xs))/\ns.length=xs.length/\DUs W B H us xs:=by
 rcases h with h|⟨l,p,xs,e1,_⟩
 ·exact h
 ·cases e1
def DB.dk(h:DB W B H (.dk ns us) y):∃p xs,y=.ref p/\¬B p/\H p=some (.dK ((ns.map Oi).zip xs))/\ns.length=xs.length/\DUs W B H us xs:=by
 rcases h with h|⟨l,p,xs,e1,_⟩
 ·exact h
 ·cases e1
def DB.ls(e:EB W B H)(h:DB W B H (.ls l) y):∃p xs,y=.ref p/\¬W p/\H p=some (.lst xs)/\DUs W B H l xs:=by
 rcases h with ⟨p,xs,e1,nb,h1,h2⟩|⟨l,p,xs,e1,e2,w,h1,h2⟩
 ·exact#[p,xs,e1,λw=>nb (e.wb p w),h1,h2]
 ·cases e1;exact#[p,xs,e2,w,h1,h2]
end
abbrev TV:=EV->(Sl->Prop)->Prop
def VT(t:TE)(F:TV):Prop:=∀{W B:Addr->Prop}{ρ:EV}{σ:St}{H:Hp}{R:Sl->Prop}{Q:VK},EE W B H ρ σ->F ρ R->(∀s v H',R s->Fw W H H'->RO W B H H' s v->Q v H')->t σ H Q
def VE(X:Cx)(e:Cr)(F:TV):Prop:=∃t,PE X e t/\VT t F
abbrev TVc:=EV->(Bool->Prop)->Prop
def VTc(t:TT)(F:TVc):Prop:=∀{W B:Addr->Prop}{ρ:EV}{σ:St}{H:Hp}{R:Bool->Prop}{Q:Bool->Hp->Prop},EE W B H ρ σ->F ρ R->(∀c H',R c->Fw W H H'->Q c H')->t σ H Q
def VC(X:Cx)(e:Cr)(F:TVc):Prop:=∃t,PT X e t/\VTc t F
def VW(X:Cx)(e:Cr)(F:TVc):Prop:=∃t,PW X e t/\VTc t F
abbrev TVa:=EV->(List U->Prop)->Prop
def VTa(n:Nat)(t:TA)(F:TVa):Prop:=∀{W B:Addr->Prop}{ρ:EV}{σ:St}{H:Hp}{R:List U->Prop}{Q:List V->Hp->Prop},EE W B H ρ σ->F ρ R->(∀us vs H',R us->us.length=n->Fw W H H'->DUs W B H' us vs->Q vs H')->t σ H Q
def VA(X:Cx)(es:List Cr)(F:TVa):Prop:=∃t,PA X es t/\VTa es.length t F
def DBs(W B:Addr->Prop)(H:Hp):List U->List V->Prop
 | [],xs=>xs=[]
 |u::l,xs=>∃x r,xs=x::r/\DB W B H u x/\DBs W B H l r
def DBs.to{W B:Addr->Prop}{H H':Hp}(e:EB W B H)(f:Fw W H H'):∀{us:List U}{vs:List V},DBs W B H us vs->DBs W B H' us vs
 | [],_,h=>h
 |_::_,_,⟨x,r,e1,h,t⟩=>#[x,r,e1,h.to e f,DBs.to e f t]
def VTb(t:TA)(F:TVa):Prop:=∀{W B:Addr->Prop}{ρ:EV}{σ:St}{H:Hp}{R:List U->Prop}{Q:List V->Hp->Prop},EE W B H ρ σ->F ρ R->(∀us vs H',R us->Fw W H H'->DBs W B H' us vs->Q vs H')->t σ H Q
def VB(X:Cx)(es:List Cr)(F:TVa):Prop:=∃t,PA X es t/\VTb t F
def O2(r:R2)(g:U->U->(Sl->Prop)->Prop):Prop:=∀{W B:Addr->Prop}{H:Hp}{u v:U}{x y:V}{R:Sl->Prop}{Q:VK},EB W B H->DB W B H u x->DB W B H v y->g u v R->(∀s z H',R s->Fw W H H'->RO W B H H' s z->Q z H')->r x y H Q
def CB(r:List V->Hp->VK->Prop)(g:#v[q]):Prop:=∀{W B:Addr->Prop}{H:Hp}{us:List U}{vs:List V}{R:Sl->Prop}{Q:VK},EB W B H->DBs W B H us vs->g us R->(∀s z H',R s->Fw W H H'->RO W B H H' s z->Q z H')->r vs H Q
def aNi(i:Nat):TV:=λρ R=>match (ρ[i]? :Option Sl)with
 |some (.sh u)=>R (.sh u)
 |some (.ow l)=>R (.br l)
 |some (.br l)=>R (.br l)
 |some (.oo o)=>R (.bo o)
 |some (.bo o)=>R (.bo o)
 |_=>False
def vC(u:U):TV:=λ_ R=>R (.sh u)
def vOp(g:U->U->(Sl->Prop)->Prop)(a b:TV):TV:=λρ R=>a ρ λs=>b ρ λs'=>g s.rd s'.rd R
def nU(F:TV):TVc:=λρ R=>F ρ λs=>match s.rd with
 |.v (.bl c)=>R c
 |_=>False
def bBp(a b:TVc):TVc:=λρ R=>a ρ λc=>(c=true->b ρ R)/\(c=false->R false)
def vOr(a b:TVc):TVc:=λρ R=>a ρ λc=>(c=true->R true)/\(c=false->b ρ R)
def bB3(a:TVc):TVc:=λρ R=>a ρ λc=>R (!c)
def aRt:TVa:=λ_ R=>R []
def aRs(a:TV)(b:TVa):TVa:=λρ R=>a ρ λs=>s.es λu=>b ρ λus=>R (u::us)
def aWg(a:TV)(b:TVa):TVa:=λρ R=>a ρ λs=>b ρ λus=>R (s.rd::us)
def bB6(a:TVa):TV:=λρ R=>a ρ λus=>R (.sh (.tp us))
def bDj(a:TVa):TV:=λρ R=>a ρ λus=>R (.ow us)
def bBr(F:#v[q])(a:TVa):TV:=λρ R=>a ρ λus=>F us R
inductive aZp(F:#v[q])(vs:List V)(H:Hp)(Q:VK)(z3_:XK):Prop
 |mk (W B us R:_) (q0_:EB W B H) (q1_:DUs W B H us vs) (q2_:F us R) (q3_:∀s v H',R s->Fw W H H'->RO W B H H' s v->Q v H'):aZp F vs H Q z3_
def spV(F:#v[q]):Sp:=λvs H Q z3_=>aZp F vs H Q z3_
def aA(i:Nat){x:Str}(hN:X.N[i]? =some x:=by rfl)(hv:Vis X.env.scope x:=by trivial)(hd:ND x:=by decide)
  (hcd:NC x:=by decide):VE X (.Name x pos) (aNi i):=⟨_,pF hN hv hd hcd,λ{W B ρ σ H R Q} e h q=>by
 unfold aNi at h;split at h
 ·rename_i u hu;obtain⟨v,h1,h2⟩:=e.sh i u hu;exact#[v,h1,q _ _ _ h e.eb.refl h2]
 ·rename_i l hu;obtain⟨p,xs,h1,h2,h3,h4⟩:=e.ow i l (.inl hu);exact#[_,h1,q _ _ _ h e.eb.refl #[p,xs,rfl,h2,h3,h4]]
 ·rename_i l hu;obtain⟨p,xs,h1,h2,h3,h4⟩:=e.ow i l (.inr hu);exact#[_,h1,q _ _ _ h e.eb.refl #[p,xs,rfl,h2,h3,h4]]
 ·rename_i o hu;obtain⟨p,S,h1,h2,h3⟩:=e.hd i _ o hu rfl;exact#[_,h1,q _ _ _ h e.eb.refl #[p,S,rfl,h2,h3]]
 ·rename_i o hu;obtain⟨p,S,h1,h2,h3⟩:=e.hd i _ o hu rfl;exact#[_,h1,q _ _ _ h e.eb.refl #[p,S,rfl,h2,h3]]
 ·exact h.elim⟩
def aSc{x:V}(f:rO x=true):VT (tC x) (vC (.v x)):=λe h q=>q _ _ _ h e.eb.refl #[rfl,f]
def aH{i j pos}:VE X (.Constant (.int i) j pos) (vC (.n i)):=#[_,dW,aSc rfl]
def rH{x j pos}:VE X (.Constant (.str x) j pos) (vC (.s x)):=#[_,aXw,aSc rfl]
def jR{b j pos}:VE X (.Constant (.bool b) j pos) (vC (.b b)):=#[_,bAu,aSc rfl]
def tO{j pos}:VE X (.Constant .none j pos) (vC .no):=#[_,aXt,aSc rfl]
def aLf{r:R2}{g:U->U->(Sl->Prop)->Prop}{ta tb:TE}{F G:TV}(o:O2 r g)(ha:VT ta F)(hb:VT tb G):VT (tOp r ta tb) (vOp g F G):=λe h q=>by
 refine ha e h λs v H1 h1 f1 r1=>?_;have e1:=e.to f1;refine hb e1 h1 λs' v' H2 h2 f2 r2=>?_;refine o (e1.to f2).eb ((r1.db e.eb).to e1.eb f2) (r2.db e1.eb) h2 λs3 z H3 h3 f3 r3=>?_;exact q _ _ _ h3 ((f1.trans f2).trans f3) (r3.back (f1.trans f2))
def cT{op:Operator}{r:R2}{g:U->U->(Sl->Prop)->Prop}{a b:Cr}{F G:TV}(ho:OpR X (Jk op) r)(o:O2 r g)(ha:VE X a F)(hb:VE X b G):VE X (.BinOp a op b pos) (vOp g F G):=
 let⟨_,p,f⟩:=ha;let⟨_,p',f'⟩:=hb;#[_,jX ho p p',aLf o f f']
def bI{r:R2}{g:U->U->(Sl->Prop)->Prop}{a b:Cr}{F G:TV}(ho:IxR X r)(o:O2 r g)(ha:VE X a F)(hb:VE X b G)(hs:zM b:=by exactλ_ _=>rfl):VE X (.Subscript a b pos) (vOp g F G):=
 let⟨_,p,f⟩:=ha;let⟨_,p',f'⟩:=hb;#[_,uL ho p p' hs,aLf o f f']
def iB{op:Uu}{r:R2}{g:U->U->(Sl->Prop)->Prop}{a b:Cr}{F G:TV}(ho:OpR X (Ff op) r)(o:O2 r g)(ha:VE X a F)(hb:VE X b G)(hm:Hd op b=false:=by first|exact aEh _|rfl):VE X (.Compare a [op] [b] pos) (vOp g F G):=
 let⟨_,p,f⟩:=ha;let⟨_,p',f'⟩:=hb;#[_,aTt ho p p' hm,aLf o f f']
def aAc{F:TV}(h:VT t F):VTc (aRk t) (nU F):=λe h1 q=>h e h1 λs v H1 h2 f r=>by
 have d:=r.db e.eb;revert h2 d;generalize s.rd=u;intro h2 d;split at h2
 ·exact#[_,d.fl.1,q _ _ h2 f]
 ·exact h2.elim
def bK{op:Uu}{r:R2}{g:U->U->(Sl->Prop)->Prop}{a b:Cr}{F G:TV}(ho:OpR X (Ff op) r)(o:O2 r g)(ha:VE X a F)(hb:VE X b G)(hm:Hd op b=false:=by first|exact aEh _|rfl):VC X (.Compare a [op] [b] pos) (nU (vOp g F G)):=
 let⟨_,p,f⟩:=ha;let⟨_,p',f'⟩:=hb;#[_,aEr ho p p' hm,aAc (aLf o f f')]
def cL{a:Cr}{F:TV}(ha:VE X a F)(he:∀whole,Yo a X.env whole=(do let v<-whole;Ph a.pos;holding [v] (truthy v)):=by intro _;rfl):VC X a (nU F):=
 let⟨_,p,f⟩:=ha;#[_,aX4 p he,aAc f]
def cI{a:Cr}{F:TVc}(ha:VC X a F):VC X (.UnaryOp .Not a pos) (bB3 F):=let⟨_,p,f⟩:=ha;#[_,aX3 p,λe h q=>f e h λc H1 h1 f1=>q _ _ h1 f1]
def iM{a:Cr}{F:TVc}(ha:VW X a F):VC X a F:=let⟨_,p,f⟩:=ha;#[_,p.pt,f]
def aLg{a:Cr}{F:TVc}(ha:VC X a F):VW X (.BoolOp .And [a] pos) F:=let⟨_,p,f⟩:=ha;#[_,aT5 p,f]
def fK{a:Cr}{F:TVc}(ha:VC X a F):VW X (.BoolOp .Or [a] pos) F:=let⟨_,p,f⟩:=ha;#[_,aX6 p,f]
def aSd{a b:Cr}{rest:List Cr}{F G:TVc}(ha:VC X a F)(hb:VW X (.BoolOp .And (b::rest) pos) G):VW X (.BoolOp .And (a::b::rest) pos) (bBp F G):=
 let⟨_,p,f⟩:=ha;let⟨_,p',f'⟩:=hb;⟨_,aX5 p p',λe h q=>f e h λc H1 h1 f1=>by
  cases c with
  |true=>exact aGj (f' (e.to f1) (h1.1 rfl) λc H2 h2 f2=>q _ _ h2 (f1.trans f2))
  |false=>exact rQ (q _ _ (h1.2 rfl) f1)⟩
def jV{a b:Cr}{rest:List Cr}{F G:TVc}(ha:VC X a F)(hb:VW X (.BoolOp .Or (b::rest) pos) G):VW X (.BoolOp .Or (a::b::rest) pos) (vOr F G):=
 let⟨_,p,f⟩:=ha;let⟨_,p',f'⟩:=hb;⟨_,bAz p p',λe h q=>f e h λc H1 h1 f1=>by
  cases c with
  |true=>exact aGj (q _ _ (h1.1 rfl) f1)
  |false=>exact rQ (f' (e.to f1) (h1.2 rfl) λc H2 h2 f2=>q _ _ h2 (f1.trans f2))⟩
def vB(F:TVc):TV:=λρ R=>F ρ λc=>R (.sh (.b c))
def aSb{F:TV}{ρ:EV}{σ:St}{W B:Addr->Prop}{H:Hp}{Q:VK}(f:VT t F)(e:EE W B H ρ σ)(h:nU F ρ R)(q:∀c H1,R c->Fw W H H1->Q (.bl c) H1):t σ H Q:=f e h λs v H1 h1 f1 r=>by
 have d:=r.db e.eb;revert h1 d;generalize s.rd=u;intro h2 d;split at h2
 ·rw[d.fl.1];exact q _ _ h2 f1
 ·exact h2.elim
def lY{a b:Cr}{rest:List Cr}{F G:TV}(ha:VE X a F)(hb:VE X (.BoolOp .And (b::rest) pos) G):VE X (.BoolOp .And (a::b::rest) pos) (vB (bBp (nU F) (nU G))):=
 let⟨ta,p,f⟩:=ha;let⟨_,p',f'⟩:=hb;⟨_,aXo p p',λe h q=>show ta _ _ _ from aSb f e h λc H1 h1 f1=>by
  refine#[c,rfl,?_];cases c with
  |true=>exact aGj (aSb f' (e.to f1) (h1.1 rfl) λc H2 h2 f2=>q _ _ _ h2 (f1.trans f2) #[rfl,rfl])
  |false=>exact rQ (q _ _ _ (h1.2 rfl) f1 #[rfl,rfl])⟩
def bCa{a b:Cr}{rest:List Cr}{F G:TV}(ha:VE X a F)(hb:VE X (.BoolOp .Or (b::rest) pos) G):VE X (.BoolOp .Or (a::b::rest) pos) (vB (vOr (nU F) (nU G))):=
 let⟨ta,p,f⟩:=ha;let⟨_,p',f'⟩:=hb;⟨_,bAw p p',λe h q=>show ta _ _ _ from aSb f e h λc H1 h1 f1=>by
  refine#[c,rfl,?_];cases c with
  |true=>exact aGj (q _ _ _ (h1.1 rfl) f1 #[rfl,rfl])
  |false=>exact rQ (aSb f' (e.to f1) (h1.2 rfl) λc H2 h2 f2=>q _ _ _ h2 (f1.trans f2) #[rfl,rfl])⟩
def aY9{a:Cr}{F:TV}(ha:VE X a F):VE X (.UnaryOp .Not a pos) (vB (bB3 (nU F))):=
 let⟨ta,p,f⟩:=ha;#[_,aXu p,λe h q=>show ta _ _ _ from aSb f e h λc H1 h1 f1=>#[c,rfl,q _ _ _ h1 f1 #[rfl,rfl]]]
def aF:VA X [] aRt:=#[_,dN,λe h q=>q _ _ _ h rfl e.eb.refl rfl]
def aB{a:Cr}{es:List Cr}{F:TV}{G:TVa}(ha:VE X a F)(hb:VA X es G)(hs:SE X a es:=by rfl):VA X (a::es) (aRs F G):=
 let⟨_,p,f⟩:=ha;let⟨_,p',f'⟩:=hb;⟨_,bZ p p' hs,λe h q=>f e h λs v H1 h1 f1 r1=>by
  obtain⟨u,h1,d⟩:=r1.du e.eb h1;exact f' (e.to f1) h1 λus vs H2 h2 l2 f2 d2=>q _ _ _ h2 (by rw[Ao,l2];rfl) (f1.trans f2) #[v,vs,rfl,DU.mono ((e.to f1).eb.keep f2) u d,d2]⟩
def aM:VB X [] aRt:=#[_,dN,λe h q=>q _ _ _ h e.eb.refl rfl]
def aJ{a:Cr}{es:List Cr}{F:TV}{G:TVa}(ha:VE X a F)(hb:VB X es G)(hs:SE X a es:=by rfl):VB X (a::es) (aWg F G):=
 let⟨_,p,f⟩:=ha;let⟨_,p',f'⟩:=hb;⟨_,bZ p p' hs,λe h q=>f e h λs v H1 h1 f1 r1=>
  f' (e.to f1) h1 λus vs H2 h2 f2 d2=>q _ _ _ h2 (f1.trans f2) #[v,vs,rfl,(r1.db e.eb).to (e.to f1).eb f2,d2]⟩
def dO{es:List Cr}{x1}{F:TVa}(h:VA X es F)(hl:es.length<=100:=by decide):VE X (.Tuple es x1 pos) (bB6 F):=
 let⟨_,p,f⟩:=h;⟨_,aXx p,λe h q=>f e h λus vs H1 h1 l1 f1 d=>⟨by
  have:=d.length;have:(100:Nat)<=sizeLine:=by decide
  lia,λp n=>by
  have e1:=(e.to f1).eb;have f2:=e1.new (o:=.tup vs) n;exact q _ _ _ h1 (f1.trans f2) #[p,vs,rfl,e1.nw n,aP,DUs.mono (e1.keep f2) us d]⟩⟩
def bL{es:List Cr}{F:TVa}(h:VA X es F)(hl:es.length<=100:=by decide):VE X (.List es pos) (bDj F):=
 let⟨_,p,f⟩:=h;⟨_,aEo p,λ{W B ρ σ H R Q} e h q=>f e h λus vs H1 h1 l1 f1 d=>⟨by
  have:=d.length;have:(100:Nat)<=sizeLine:=by decide
  lia,λp n=>by
  have e1:=(e.to f1).eb;have f2:=e1.new (o:=.lst vs) n;exact q _ _ _ h1 (f1.trans f2) (RO.back (s:=.ow us) f1 #[p,vs,rfl,n,aP,DUs.mono (λb o nb h=>#[λz=>z.elim nb (aR h n),(e1.keep f2 b o nb h).2]) us d])⟩⟩
def aL{x:Str}{F:#v[q]}{a:Cr}{es:List Cr}{G:TVa}{p pos:Pos}(C:Cal X.prog X.w X.K X.mg X.base CX0 k x ps (spV F))(hr:eZ k X.A)(hg:Gl X x)
  (ha:VA X (a::es) G) (hdb:ND x:=by decide) (he:SE X a es:=by rfl) (hpl:BT X pos es:=by rfl):
  VE X (.Call (.Name x p) (a::es) [] pos) (bBr F G):=
 let⟨_,p,f⟩:=ha;⟨_,aXp C hr hg aC3 p hdb he hpl,λe h q=>f e h λus vs H1 h1 l1 f1 d=>by
  refine#[_,_,us,_,(e.to f1).eb,(by rw[Bk];exact d),h1,λs v H2 h2 f2 r2=>q _ _ _ h2 (f1.trans f2) (r2.back f1)]⟩
structure Cfl(K:Ad)(C:Addr)(fs:List Str):Prop where
 cl:Cls K C
 na:∀f∈fs,mZ K C f
def aBz(f:Str):List Str->List U->(Sl->Prop)->Prop
 |n::ns,u::us,R=>(n=f/\R (.sh u))∨(n≠f/\aBz f ns us R)
 |_,_,_=>False
theorem aKr{W B:Addr->Prop}{H:Hp}{f:Str}{R:Sl->Prop}:∀{ns:List Str}{us:List U}{xs:List V},DUs W B H us xs->aBz f ns us R->∃u v,R (.sh u)/\DU W B H u v/\(ns.zip xs).lookup f=some v
 |_::_,u::us,_,⟨x,r,e,h,t⟩,q=>by
  subst e;rcases q with ⟨rfl,q⟩|⟨n,q⟩
  ·exact#[u,x,q,h,by simp[Bu]]
  ·obtain⟨u',v,h1,h2,h3⟩:=aKr t q;refine#[u',v,h1,h2,?_];rw[Ou,Bu,show(f==_)=false from beq_eq_false_iff_ne.mpr (Dc n)];exact h3
def vFl(C:Addr)(a:TV)(f:Str):TV:=λρ R=>a ρ λs=>match s.rd with
 |.ob C' ns us=>C'=C/\aBz f ns us R
 |_=>False
def dX{fs:List Str}{a:Cr}{f:Str}{F:TV}(c:Cfl X.K C fs)(ha:VE X a F)(hf:f∈fs:=by decide)(hb:He a f X.env (eval a X.env)=eval a X.env:=by rfl):VE X (.Attribute a f pos) (vFl C F f):=
 let⟨_,p,g⟩:=ha;⟨_,aXs p hb,λe h q=>g e h λs v H1 h1 f1 r1=>by
  have d:=r1.db e.eb;revert h1 d;generalize s.rd=u;intro h1 d;split at h1
  ·obtain⟨rfl,h1⟩:=h1;obtain⟨p,dx,xs,rfl,_,hp,hl,ds⟩:=d.ob;obtain⟨u,v,h2,h3,h4⟩:=aKr ds h1;exact#[p,_,dx,_,v,rfl,hp,c.cl,c.na f hf,h4,q _ _ _ h2 f1 h3]
  ·exact h1.elim⟩
def mOb(Cs:Addr->Prop)(m:Str)(F:Addr->List U->(Sl->Prop)->Prop)(G:TVa)(ρ:EV)(R:Sl->Prop):U->Prop
 |.ob C ns us=>Cs C/\ns.elem m=false/\G ρ λvs=>F C (.ob C ns us::vs) R
 |_=>False
def aWh(Cs:Addr->Prop)(m:Str)(F:Addr->List U->(Sl->Prop)->Prop)(a:TV)(G:TVa):TV:=λρ R=>a ρ λs=>s.es (mOb Cs m F G ρ R)
theorem aJ4:∀{ns:List Str}{xs:List V},ns.elem m=false->(ns.zip xs).lookup m=none
 | [],_,_=>by simp
 |_::_,[],_=>by simp
 |n::ns,x::xs,h=>by
  simp only[List.elem_cons]at h;rw[Ou,Bu];cases e:m==n with
  |true=>rw[e]at h;cases h
  |false=>
   rw[e]at h;exact aJ4 h
def aLc{m:Str}{F:Addr->List U->(Sl->Prop)->Prop}{o a:Cr}{es:List Cr}{apos pos:Pos}{Fo:TV}{G:TVa}{pl:Sem Bool}(ho:VE X o Fo)(D:Dis X.prog X.w X.K X.mg X.base CX0 k Cs m ps λC=>spV (F C))(hr:eZ k X.A)(ha:VA X (a::es) G)
  (hst:SE X a es:=by rfl) (hpl:BT X pos es:=by rfl)
  (ht:eval (.Call (.Attribute o m apos) (a::es) [] pos) X.env=(do
   let ov<-eval o X.env
   Ph apos.atName
   let(f,first)<-holding [ov] (Qb ov m pl)
   Yt pos f first (Np pos (Ca (a::es) X.env)) (Gx pos (Ed [] X.env))):=by rfl):
  VE X (.Call (.Attribute o m apos) (a::es) [] pos) (aWh Cs m F Fo G):=
 let⟨_,p,g⟩:=ho;let⟨_,p',g'⟩:=ha;⟨_,aQp p D hr aC3 p' hst hpl ht,λe h q=>g e h λs v H1 h1 f1 r1=>by
  obtain⟨u,h1,d⟩:=r1.du e.eb h1;match u,h1,d with
  |.ob C ns us,⟨hC,hm,h1⟩,d=>
   obtain⟨p,dx,xs,rfl,nb,hp,hl,ds⟩:=id d;refine#[p,C,dx,_,rfl,hp,hC,aJ4 hm,g' (e.to f1) h1 λvs ws H2 h2 _ f2 d2=>?_];have e2:=(e.to f1).eb;exact#[_,_,.ob C ns us::vs,_,e2.to f2,#[_,_,rfl,DU.mono (e2.keep f2) _ d,d2],h2,λs v H3 h3 f3 r3=>q _ _ _ h3 ((f1.trans f2).trans f3) (r3.back (f1.trans f2))]⟩
def cD{m:Str}{F:Addr->List U->(Sl->Prop)->Prop}{o:Cr}{apos pos:Pos}{Fo:TV}{pl:Sem Bool}(ho:VE X o Fo)(D:Dis X.prog X.w X.K X.mg X.base CX0 k Cs m ps λC=>spV (F C))(hr:eZ k X.A)
  (ht:eval (.Call (.Attribute o m apos) [] [] pos) X.env=(do
   let ov<-eval o X.env
   Ph apos.atName
   let(f,first)<-holding [ov] (Qb ov m pl)
   Yt pos f first (Np pos (Ca [] X.env)) (Gx pos (Ed [] X.env))):=by rfl):
  VE X (.Call (.Attribute o m apos) [] [] pos) (aWh Cs m F Fo aRt):=
 let⟨_,p,g⟩:=ho;⟨_,aM1 p D hr aC3 ht,λe h q=>g e h λs v H1 h1 f1 r1=>by
  obtain⟨u,h1,d⟩:=r1.du e.eb h1;match u,h1,d with
  |.ob C ns us,⟨hC,hm,h1⟩,d=>
   obtain⟨p,dx,xs,rfl,nb,hp,hl,ds⟩:=id d;exact#[p,C,dx,_,rfl,hp,hC,aJ4 hm,_,_,[.ob C ns us],_,(e.to f1).eb,#[_,_,rfl,d,rfl],h1,λs v H3 h3 f3 r3=>q _ _ _ h3 (f1.trans f3) (r3.back f1)]⟩
def gI(f:Int->Int->V):U->U->(Sl->Prop)->Prop
 |.v (.int i),.v (.int j),R=>R (.sh (.v (f i j)))
 |_,_,_=>False
def gIC(C:Int->Int->Prop)(f:Int->Int->V):U->U->(Sl->Prop)->Prop
 |.v (.int i),.v (.int j),R=>C i j/\R (.sh (.v (f i j)))
 |_,_,_=>False
def cU(hf:∀i j,rO (f i j)=true:=by intros;rfl):O2 (rI0 f) (gI f):=λ{W B H u v x y R Q} e d1 d2 h q=>by
 unfold gI at h;split at h
 ·rename_i i j;exact#[i,j,d1.int,d2.int,q _ _ _ h e.refl #[rfl,hf i j]]
 ·exact h.elim
def aGv{C:Int->Int->Prop}(hf:∀i j,rO (f i j)=true:=by intros;rfl):O2 (rI C f) (gIC C f):=λ{W B H u v x y R Q} e d1 d2 h q=>by
 unfold gIC at h;split at h
 ·rename_i i j;exact#[i,j,d1.int,d2.int,h.1,q _ _ _ h.2 e.refl #[rfl,hf i j]]
 ·exact h.elim
def aSj{α β:Type}{xs:List α}{ys:List β}{i:Int}{x:α}(e:xs.length=ys.length)(h:atI xs i=some x):∃(j:Nat)(y:β),xs[j]? =some x/\ys[j]? =some y/\atI ys i=some y:=by
 unfold atI at h⊢;rw[<-e];cases q:ixN xs.length i with
 |none=>rw[q]at h;cases h
 |some j=>
  rw[q]at h;have h':xs[j]? =some x:=h;have hj:=(Ay.mp h').1;exact#[j,_,h',Ag (by rw[<-e];exact hj),Ag (by rw[<-e];exact hj)]
def DUs.atI{W B:Addr->Prop}{H:Hp}{l:List U}{xs:List V}{i:Int}{u:U}(d:DUs W B H l xs)(h:atI l i=some u):∃x,L2.atI xs i=some x/\DU W B H u x:=by
 obtain⟨j,x,h1,h2,h3⟩:=aSj d.length h;obtain⟨y,h4,h5⟩:=d.get h1;rw[h2]at h4;cases h4;exact#[x,h3,h5]
def aZ8:U->U->(Sl->Prop)->Prop
 |.ls l,.v (.int i),R=>∃u,atI l i=some u/\R (.sh u)
 |_,_,_=>False
def aZ9:U->U->(Sl->Prop)->Prop
 |.tp l,.v (.int i),R=>∃u,atI l i=some u/\R (.sh u)
 |_,_,_=>False
def aXg{K:Ad}:O2 (aYa K) aZ8:=λ{W B H u v x y R Q} e d1 d2 h q=>by
 unfold aZ8 at h;split at h
 ·obtain⟨w,h1,h2⟩:=h;obtain⟨p,xs,rfl,_,hp,ds⟩:=d1.ls e;obtain⟨z,h3,h4⟩:=ds.atI h1;exact#[p,xs,_,z,rfl,d2.int,SqL.of hp,h3,q _ _ _ h2 e.refl h4]
 ·exact h.elim
def aXh{K:Ad}:O2 (aYb K) aZ9:=λ{W B H u v x y R Q} e d1 d2 h q=>by
 unfold aZ9 at h;split at h
 ·obtain⟨w,h1,h2⟩:=h;obtain⟨p,xs,rfl,_,hp,ds⟩:=d1.tp;obtain⟨z,h3,h4⟩:=ds.atI h1;exact#[p,xs,_,z,rfl,d2.int,SqT.of hp,h3,q _ _ _ h2 e.refl h4]
 ·exact h.elim
mutual
def U.d:U->D
 |.v x=> .fl x
 |.tp l=> .tp (U.ds l)
 |.ls l=> .ls (U.ds l)
 |_=> .fl .non
def U.ds:List U->List D
 | []=>[]
 |u::l=>U.d u::U.ds l
end
mutual
def U.dt:Nat->U->Prop
 |_,.v _=>True
 |n+1,.tp l=>U.dts n l
 |n+1,.ls l=>U.dts n l
 |_,_=>False
def U.dts:Nat->List U->Prop
 |_,[]=>True
 |n,u::l=>U.dt n u/\U.dts n l
end
section
variable {W B:Addr->Prop}{H:Hp}{K:Ad}
mutual
theorem DU.den:∀(n:Nat)(u:U){v:V},u.dt n->DU W B H u v->Den K H u.d v
 |_,.v _,_,_,h=>h
 |n+1,.tp l,_,t,⟨p,xs,e,_,hp,ds⟩=>#[p,xs,e,SqT.of hp,DUs.dens n l t ds]
 |n+1,.ls l,_,t,⟨p,xs,e,_,hp,ds⟩=>#[p,xs,e,SqL.of hp,DUs.dens n l t ds]
theorem DUs.dens:∀(n:Nat)(l:List U){xs:List V},U.dts n l->DUs W B H l xs->wX K H (U.ds l) xs
 |_,[],_,_,h=>h
 |n,u::l,_,⟨t,t'⟩,⟨x,r,e,h,h'⟩=>#[x,r,e,DU.den n u t h,DUs.dens n l t' h']
end
mutual
theorem U.dep:∀(n:Nat)(u:U),u.dt n->u.d.dep<=n
 |_,.v _,_=>Bp _
 |n+1,.tp l,t=>Xn (U.deps n l t)
 |n+1,.ls l,t=>Xn (U.deps n l t)
theorem U.deps:∀(n:Nat)(l:List U),U.dts n l->D.deps (U.ds l)<=n
 |_,[],_=>Bp _
 |n,u::l,⟨t,t'⟩=>Nat.max_le.mpr #[U.dep n u t,U.deps n l t']
end
def DB.den(t:u.dt n)(h:DB W B H u v):Den K H u.d v:=by
 rcases h with h|⟨l,p,xs,rfl,rfl,w,h1,h2⟩
 ·exact DU.den n u t h
 ·match n,t with
  |n+1,t=>exact#[p,xs,rfl,SqL.of h1,DUs.dens n l t h2]
end
def U.eq(u v:U):Bool:=u.d.eq v.d
def gEq(neg:Bool):U->U->(Sl->Prop)->Prop:=λu v R=>u.dt 40/\v.dt 40/\R (.sh (.b (if neg then !u.eq v else u.eq v)))
def dC{K:Ad}{neg:Bool}:O2 (aX8 K neg) (gEq neg):=λ{W B H u v x y R Q} e d1 d2 ⟨t1,t2,h⟩ q=>by
 have h1:=U.dep 40 u t1;have h2:=U.dep 40 v t2;exact#[u.d,v.d,d1.den t1,d2.den t2,∅,q _ _ _ h e.refl #[rfl,rfl]]
structure uJ where
 nx:EV->Prop
 rt:Sl->Prop
 bk:EV->Prop:=λ_=>False
 ct:EV->Prop:=λ_=>False
 mr:EV->U->Prop:=λ_ _=>False
abbrev TVS:=uJ->EV->Prop
def Bx(B:Addr->Prop)(A:Nat->Addr->Prop)(p:Addr):Prop:=B p∨∃i,A i p
def Sl.brd:Sl->Bool
 |.br _=>true
 |.bo _=>true
 |_=>false
structure EO(W B:Addr->Prop)(H0:Hp)(A:Nat->Addr->Prop)(ρ:EV)(σ:St)(H:Hp):Prop where
 eb:EB W B H0
 fw:Fw W H0 H
 len:ρ.length=σ.length
 an:∀i p,A i p->H0 p=none
 aw:∀i p,A i p->∃o,H p=some o/\Mt o
 inj:∀i j p,A i p->A j p->i=j
 sh:∀(i:Nat)(u:U),ρ[i]? =some (Sl.sh u)->∃v,σ[i]? =some (some v)/\DU W (Bx B A) H u v
 hd:∀(i:Nat)(s:Sl)(w:Own),ρ[i]? =some s->s.hold=some w->∃p,σ[i]? =some (some (V.ref p))/\w.φ W (Bx B A) (A i) H p
 nb:∀(i:Nat)(s:Sl),ρ[i]? =some s->s.brd=false
def EO.ow{W B:Addr->Prop}{H0 H:Hp}{A:Nat->Addr->Prop}{σ:St}(o:EO W B H0 A ρ σ H)(i:Nat)(l:List U)(h:ρ[i]? =some (Sl.ow l)):∃p xs,σ[i]? =some (some (V.ref p))/\(∀b,A i b↔b=p)/\H p=some (.lst xs)/\DUs W (Bx B A) H l xs:=let⟨p,h1,h2,xs,h3⟩:=o.hd i _ _ h rfl;#[p,xs,h1,h2,h3]
structure bCg(W B:Addr->Prop)(H0:Hp)(E:uJ)(D:Ends):Prop where
 nx:∀{A ρ σ H},EO W B H0 A ρ σ H->E.nx ρ->D.nx σ H
 bk:∀{A ρ σ H},EO W B H0 A ρ σ H->E.bk ρ->D.bk σ H
 ct:∀{A ρ σ H},EO W B H0 A ρ σ H->E.ct ρ->D.ct σ H
 rt:∀{s v H},Fw W H0 H->RO W B H0 H s v->E.rt s->D.rt v H
 mr:∀{A ρ σ H u v},EO W B H0 A ρ σ H->DU W (Bx B A) H u v->E.mr ρ u->D.rt v H
def VTs(t:TS)(G:TVS):Prop:=∀{W B:Addr->Prop}{H0:Hp}{A:Nat->Addr->Prop}{ρ:EV}{σ:St}{H:Hp}{E:uJ}{D:Ends},EO W B H0 A ρ σ H->G E ρ->bCg W B H0 E D->t D σ H
def VS(X:Cx)(st:Stmt)(G:TVS):Prop:=∃t,PS X st t/\VTs t G
def VSs(X:Cx)(st:List Stmt)(G:TVS):Prop:=∃t,PSs X st t/\VTs t G
section
variable {W B:Addr->Prop}{H0 H H1:Hp}{A:Nat->Addr->Prop}{ρ:EV}{σ:St}
def EO.now(o:EO W B H0 A ρ σ H)(h:H0 p=none):¬B p:=λz=>o.eb.dm p z h
def EO.awn(o:EO W B H0 A ρ σ H)(h:A i p):H p≠none:=λn=>by
 obtain⟨xs,q,_⟩:=o.aw i p h;rw[q]at n;cases n
def EO.nw(o:EO W B H0 A ρ σ H)(h:A i p):¬W p:=λz=>o.now (o.an i p h) (o.eb.wb p z)
def EO.ee(o:EO W B H0 A ρ σ H):EE W (Bx B A) H ρ σ:=
 #[#[λp h=>h.elim ((o.eb.to o.fw).bl p) λ⟨i,h⟩=>o.aw i p h,λp w=> .inl (o.eb.wb p w),o.fw.wo],o.len,o.sh,λi s w h hs=>let⟨p,h1,h3⟩:=o.hd i s w h hs;#[p,_,h1,λ_=>o.nw,h3]]
def EO.to(o:EO W B H0 A ρ σ H)(f:Fw W H H1):EO W B H0 A ρ σ H1:=by
 have e:=o.ee;have e1:=e.to f;refine#[o.eb,o.fw.trans f,o.len,o.an,λi p h=>e1.eb.bl p (.inr #[i,h]),o.inj,e1.sh,λi s w h hs=>?_,o.nb];obtain⟨p,h1,h3⟩:=o.hd i s w h hs;exact#[p,h1,w.to e.eb f (λ_=>o.nw) h3]
def bT{α:Type}{l:List α}{i j:Nat}{x y:α}(h:(l.set i x)[j]? =some y):(j=i/\y=x/\i<l.length)∨(j≠i/\l[j]? =some y):=by
 rw[Lz]at h;split at h
 ·rename_i e;split at h
  ·cases h;exact .inl #[e.symm,rfl,by assumption]
  ·cases h
 ·rename_i e;exact .inr #[λz=>e z.symm,h]
def get_set{α:Type}{l:List α}{x:α}(h:i<l.length):(l.set i x)[i]? =some x:=by rw[Lz];simp[h]
def fX{α:Type}{l:List α}{i j:Nat}{x:α}(h:j≠i):(l.set i x)[j]? =l[j]? :=by rw[Lz,Ab0 (Dc h)]
def EO.kp:∀b o,¬Bx B A b->H b=some o->¬Bx B (λj q=>j≠i/\A j q) b/\H b=some o:=λb o n h=>#[λz=>n (z.elim .inl λ⟨j,h⟩=> .inr #[j,h.2]),h]
def Own.at_(w:Own)(h:w.φ W B S H p)(e:∀b,T b↔S b):w.φ W B T H p:=by
 rw[show T=S from funext λb=>propext (e b)];exact h
def aEg{i j:Nat}(n:j≠i):∀b,(j≠i/\A j b)↔A j b:=λ_=>#[λh=>h.2,λh=>#[n,h]]
def EO.setSh(o:EO W B H0 A ρ σ H){u:U}(d:DU W (Bx B A) H u v):EO W B H0 (λj q=>j≠i/\A j q) (ρ.set i (.sh u)) (σ.set i (some v)) H:=by
 refine#[o.eb,o.fw,by rw[Cg,Cg,o.len],λj p h=>o.an j p h.2,λj p h=>o.aw j p h.2,λj j' p h h'=>o.inj j j' p h.2 h'.2,λj u' h=>?_,λj s w h hs=>?_,λj s h=>?_]
 ·rcases bT h with ⟨rfl,e,hl⟩|⟨ne,h⟩
  ·cases e;exact#[v,get_set (o.len▸hl),DU.mono EO.kp u d]
  ·obtain⟨v',h1,h2⟩:=o.sh j u' h;exact#[v',by rw[fX ne];exact h1,DU.mono EO.kp u' h2]
 ·rcases bT h with ⟨rfl,rfl,hl⟩|⟨ne,h⟩
  ·cases hs
  ·obtain⟨p,h1,h3⟩:=o.hd j s w h hs;exact#[p,by rw[fX ne];exact h1,w.at_ (w.mono EO.kp (λ_ _=>rfl) h3) (aEg ne)]
 ·rcases bT h with ⟨rfl,rfl,hl⟩|⟨ne,h⟩
  ·rfl
  ·exact o.nb j s h
def EO.setOo(o:EO W B H0 A ρ σ H)(f:Fw W H H1){s:Sl}{w:Own}{S:Addr->Prop}(hs:s.hold=some w)(hb:s.brd=false)(n:∀b,S b->H b=none)(d:w.φ W (λb=>Bx B A b∨S b) S H1 p):
  EO W B H0 (λj q=>(j=i/\S q)∨(j≠i/\A j q)) (ρ.set i s) (σ.set i (some (.ref p))) H1:=by
 have o1:=o.to f;have k0:∀b o,¬(Bx B A b∨S b)->H1 b=some o->¬Bx B (λj q=>(j=i/\S q)∨(j≠i/\A j q)) b/\H1 b=some o:=λb o n h=>#[λz=>n (z.elim (λz=> .inl (.inl z)) λ⟨j,h⟩=>h.elim (λz=> .inr z.2) λz=> .inl (.inr #[j,z.2])),h];have k:∀b o,¬Bx B A b->H b=some o->¬Bx B (λj q=>(j=i/\S q)∨(j≠i/\A j q)) b/\H1 b=some o:=λb x nb h=>k0 b x (λz=>z.elim nb λz=>by rw[n b z]at h;cases h) (o.ee.eb.keep f b x nb h).2;refine#[o.eb,o1.fw,by rw[Cg,Cg,o.len],λj q h=>?_,λj q h=>?_,λj j' q h h'=>?_,λj u' h=>?_,λj s' w' h hs'=>?_,λj s' h=>?_]
 ·rcases h with ⟨_,h⟩|⟨_,h⟩
  ·exact o.fw.none_ (n q h)
  ·exact o.an j q h
 ·rcases h with ⟨_,h⟩|⟨_,h⟩
  ·exact w.th d q h
  ·exact o1.aw j q h
 ·rcases h with ⟨e1,e2⟩|⟨_,h⟩
  ·rcases h' with ⟨e3,_⟩|⟨_,h'⟩
   ·rw[e1,e3]
   ·exact(o.awn h' (n q e2)).elim
  ·rcases h' with ⟨_,e3⟩|⟨_,h'⟩
   ·exact(o.awn h (n q e3)).elim
   ·exact o.inj j j' q h h'
 ·rcases bT h with ⟨rfl,rfl,hl⟩|⟨ne,h⟩
  ·cases hs
  ·obtain⟨v',h1,h2⟩:=o.sh j u' h;exact#[v',by rw[fX ne];exact h1,DU.mono k u' h2]
 ·rcases bT h with ⟨rfl,rfl,hl⟩|⟨ne,h⟩
  ·rw[hs]at hs';cases hs';exact#[p,get_set (o.len▸hl),w.at_ (w.mono k0 (λ_ _=>rfl) d) λb=>#[λh=>h.elim (λh=>h.2) λh=>Ab2 rfl h.1,λh=> .inl #[rfl,h]]]
  ·obtain⟨q,h1,h3⟩:=o.hd j s' w' h hs';exact#[q,by rw[fX ne];exact h1,w'.at_ (w'.mono k (λb hb=>let⟨x,hx,_⟩:=w'.th h3 b hb;(f.fr b x (o.nw hb) hx).trans hx.symm) h3) λb=>#[λh=>h.elim (λh=>Ab2 h.1 ne) λh=>h.2,λh=> .inr #[ne,h]]]
 ·rcases bT h with ⟨rfl,rfl,hl⟩|⟨ne,h⟩
  ·exact hb
  ·exact o.nb j s' h
def EO.setOw(o:EO W B H0 A ρ σ H)(f:Fw W H H1){xs:List V}(n:H p=none)(hp:H1 p=some (.lst xs))(d:DUs W (λb=>Bx B A b∨b=p) H1 l xs):
  EO W B H0 (λj q=>(j=i/\q=p)∨(j≠i/\A j q)) (ρ.set i (.ow l)) (σ.set i (some (.ref p))) H1:=o.setOo f (s:=.ow l) (S:=(·=p)) rfl rfl (λb hb=>by rw[hb];exact n) #[λ_=>Mo,xs,hp,d]
end
section
variable {W B:Addr->Prop}{H0 H H1:Hp}{A:Nat->Addr->Prop}{ρ:EV}{σ:St}
def EO.chg(o:EO W B H0 A ρ σ H){s':Sl}{w':Own}{x:HO}{p q:Addr}(hg:σ[i]? =some (some (V.ref p)))(hq:A i q)(hs':s'.hold=some w')(hb:s'.brd=false)(d:w'.φ W (Bx B A) (A i) (upd H q x) p):EO W B H0 A (ρ.set i s') σ (upd H q x):=by
 have k:∀b y,¬Bx B A b->H b=some y->¬Bx B A b/\upd H q x b=some y:=λb y n h=>#[n,(aN (λz:b=q=>n (by rw[z];exact .inr #[i,hq]))).trans h];refine#[o.eb,#[λb y w h=>?_,λr hr=>?_],by rw[Cg,o.len],o.an,λj r h=>?_,o.inj,λj u h=>?_,λj m v h hm=>?_,λj m h=>?_]
 ·rw[aN (aR h (o.an i q hq))];exact o.fw.fr b y w h
 ·obtain⟨x,y,z,h⟩:=o.fw.wo r hr;exact#[x,y,z,(aN (λe:r=q=>o.nw hq (by rw[<-e];exact hr))).trans h]
 ·by_cases e:r=q
  ·rw[e];exact w'.th d q hq
  ·rw[aN e];exact o.aw j r h
 ·rcases bT h with ⟨rfl,rfl,hl⟩|⟨ne,h⟩
  ·cases hs'
  ·obtain⟨v',h1,h2⟩:=o.sh j u h;exact#[v',h1,DU.mono k u h2]
 ·rcases bT h with ⟨rfl,rfl,hl⟩|⟨ne,h⟩
  ·rw[hs']at hm;cases hm;exact#[p,hg,d]
  ·obtain⟨r,h1,h3⟩:=o.hd j m v h hm;exact#[r,h1,v.mono k (λb hb=>aN (λe:b=q=>ne (o.inj j i q (by rw[<-e];exact hb) hq))) h3]
 ·rcases bT h with ⟨rfl,rfl,hl⟩|⟨ne,h⟩
  ·exact hb
  ·exact o.nb j m h
def EO.own(o:EO W B H0 A ρ σ H)(hg:σ[i]? =some (some (V.ref p)))(hp:∀b,A i b↔b=p)(d:DUs W (Bx B A) H l' xs'):EO W B H0 A (ρ.set i (.ow l')) σ (upd H p (.lst xs')):=
 o.chg hg ((hp p).mpr rfl) (s':=.ow l') rfl rfl #[hp,xs',aP,DUs.mono (λb y n h=>#[n,(aN (λz:b=p=>n (by rw[z];exact .inr #[i,(hp p).mpr rfl]))).trans h]) l' d]
def EO.frz(o:EO W B H0 A ρ σ H){i:Nat}{s:Sl}{w:Own}{u:U}(hi:ρ[i]? =some s)(hs:s.hold=some w)(hu:∀{W B S H p},(∀b,S b->¬B b)->w.φ W B S H p->DU W B H u (.ref p)):EO W B H0 (λj q=>j≠i/\A j q) (ρ.set i (.sh u)) σ H:=by
 refine#[o.eb,o.fw,by rw[Cg,o.len],λj p h=>o.an j p h.2,λj p h=>o.aw j p h.2,λj j' p h h'=>o.inj j j' p h.2 h'.2,λj u' h=>?_,λj m v h hm=>?_,λj m h=>?_]
 ·rcases bT h with ⟨rfl,e,hl⟩|⟨ne,h⟩
  ·cases e;obtain⟨p,h1,h3⟩:=o.hd j s w hi hs;exact#[_,h1,hu (λb hb z=>z.elim (o.now (o.an j b hb)) λ⟨j',h⟩=>h.1 (o.inj j' j b h.2 hb)) (w.mono EO.kp (λ_ _=>rfl) h3)]
  ·obtain⟨v',h1,h2⟩:=o.sh j u' h;exact#[v',h1,DU.mono EO.kp u' h2]
 ·rcases bT h with ⟨rfl,rfl,hl⟩|⟨ne,h⟩
  ·cases hm
  ·obtain⟨p,h1,h3⟩:=o.hd j m v h hm;exact#[p,h1,v.at_ (v.mono EO.kp (λ_ _=>rfl) h3) (aEg ne)]
 ·rcases bT h with ⟨rfl,rfl,hl⟩|⟨ne,h⟩
  ·rfl
  ·exact o.nb j m h
def aZ4:∀{W B S H p},(∀b,S b->¬B b)->(lsO l).φ W B S H p->DU W B H (.ls l) (.ref p):=λn ⟨s,xs,h,d⟩=>#[_,xs,rfl,n _ ((s _).mpr rfl),h,d]
def aZ5{w:Own}:∀{W B S H p},(∀b,S b->¬B b)->w.φ W B S H p->DU W B H (.op w.fz) (.ref p):=λn h=>#[_,_,rfl,n,h]
structure Rb(W:Addr->Prop)(H0 H1:Hp):Prop where
 le:∀b o,¬W b->H0 b=some o->H1 b=some o
 no:∀p,H1 p=none->H0 p=none
def EO.un(o:EO W B H0' A ρ σ H)(e:EB W B H0)(r:Rb W H0 H0'):EO W B H0 A ρ σ H:=
 #[e,#[λb x w h=>o.fw.fr b x w (r.le b x w h),o.fw.wo],o.len,λi p h=>r.no p (o.an i p h),o.aw,o.inj,o.sh,o.hd,o.nb]
def RO.un(r:Rb W H0 H0')(h:RO W B H0' H s v):RO W B H0 H s v:=by
 match s,h with
 |.sh u,h=>exact h
 |.ow l,⟨p,xs,e1,n1,h2,h3⟩=>exact#[p,xs,e1,r.no p n1,h2,h3]
 |.br l,h=>exact h
 |.oo w,⟨p,S,e1,n1,h⟩=>exact#[p,S,e1,λb hb=>r.no b (n1 b hb),h]
 |.bo w,h=>exact h
open Classical in
def EO.reb(o:EO W B H0 A ρ σ H):∃H0',EO W B H0' A ρ σ H/\Rb W H0 H0'/\∀b x,(¬ ∃i,A i b)->H b=some x->H0' b=some x:=by
 refine#[λb=>if∃i,A i b then none else H b,?_,?_,λb x n h=>(Ab0 n).trans h]
 ·have nb:∀p,B p->¬ ∃i,A i p:=λp hp ⟨i,h⟩=>o.now (o.an i p h) hp;refine#[#[λp hp=>by rw[Ab0 (nb p hp)];exact o.ee.eb.bl p (.inl hp),o.eb.wb,λp hp=>?_],#[λb x w h=>?_,o.fw.wo],o.len,λi p h=>Ab1 #[i,h],o.aw,o.inj,o.sh,o.hd,o.nb]
  ·obtain⟨x,y,z,h⟩:=o.fw.wo p hp;exact#[x,y,z,(Ab0 (nb p (o.eb.wb p hp))).trans h]
  ·split at h
   ·cases h
   ·exact h
 ·refine#[λb x w h=>?_,λp h=>?_]
  ·refine(Ab0 λ⟨i,q⟩=>?_).trans (o.fw.fr b x w h);rw[o.an i b q]at h;cases h
  ·split at h
   ·rename_i q;obtain⟨i,q⟩:=q;exact o.an i p q
   ·cases q:H0 p with
    |none=>rfl
    |some x=>
     by_cases w:W p
     ·obtain⟨_,_,_,z⟩:=o.fw.wo p w;rw[z]at h;cases h
     ·rw[o.fw.fr p x w q]at h;cases h
end
def bDn(t u:TVS):TVS:=λE ρ=>t {E with nx:=u E} ρ
def bB1:TVS:=λE ρ=>E.nx ρ
def vIf(c:TVc)(t u:TVS):TVS:=λE ρ=>c ρ λb=>(b=true->t E ρ)/\(b=false->u E ρ)
def aYz(i:Nat)(ρ:EV)(k:EV->Prop):Sl->Prop
 |.sh u=>k (ρ.set i (.sh u))
 |.ow l=>k (ρ.set i (.ow l))
 |.oo w=>k (ρ.set i (.oo w))
 |_=>False
def aRv(i:Nat)(F:TV):TVS:=λE ρ=>F ρ (aYz i ρ E.nx)
def bDl(F:TV):TVS:=λE ρ=>F ρ λs=>match s with
 |.br _=>False
 |.bo _=>False
 |s=>E.rt s
def aRu(i:Nat):TVS:=λE ρ=>match (ρ[i]? :Option Sl)with
 |some (.sh u)=>E.rt (.sh u)
 |some (.ow l)=>E.rt (.ow l)
 |some (.oo w)=>E.rt (.oo w)
 |_=>False
def vDo(F:TV):TVS:=λE ρ=>F ρ λ_=>E.nx ρ
def aYu(i:Nat)(G:TVS):TVS:=λE ρ=>match (ρ[i]? :Option Sl)with
 |some (.ow l)=>G E (ρ.set i (.sh (.ls l)))
 |some (.oo w)=>G E (ρ.set i (.sh (.op w.fz)))
 |_=>G E ρ
def bBq(i:Nat)(F:TV):TVS:=λE ρ=>match (ρ[i]? :Option Sl)with
 |some (.ow l)=>l.length<10000/\F ρ λs=>s.es λu=>E.nx (ρ.set i (.ow (l++[u])))
 |_=>False
def aYt(i:Nat)(F:TV):TVS:=λE ρ=>match (ρ[i]? :Option Sl)with
 |some (.ow l)=>F ρ λs=>match s.rd with
  |.ls m=>l.length+m.length<10000/\E.nx (ρ.set i (.ow (l++m)))
  |_=>False
 |_=>False
abbrev TVg:=U->EV->(EV->Prop)->Prop
def VTg(g:TG)(G:TVg):Prop:=∀{W B:Addr->Prop}{H0:Hp}{A:Nat->Addr->Prop}{ρ:EV}{σ:St}{H:Hp}{u:U}{v:V}{k:EV->Prop}{Q:St->Hp->Prop},EO W B H0 A ρ σ H->DU W (Bx B A) H u v->G u ρ k->(∀A' ρ' σ',EO W B H0 A' ρ' σ' H->k ρ'->Q σ' H)->g v σ H Q
def VG(X:Cx)(tg:Cr)(G:TVg):Prop:=∃g,PG X tg g/\VTg g G
def bCi(g:TGs)(is:List Nat):Prop:=∀{W B:Addr->Prop}{H0:Hp}{A:Nat->Addr->Prop}{ρ:EV}{σ:St}{H:Hp}{us:List U}{vs:List V}{k:EV->Prop}{Q:St->Hp->Prop},EO W B H0 A ρ σ H->DUs W (Bx B A) H us vs->us.length=is.length->k ((is.zip us).foldl (λρ x=>ρ.set x.1 (.sh x.2)) ρ)->(∀A' ρ' σ',EO W B H0 A' ρ' σ' H->k ρ'->Q σ' H)->g vs σ H Q
def VGs(X:Cx)(es:List Cr)(is:List Nat):Prop:=∃g,PGs X es g/\bCi g is
def iC(i:Nat):TVg:=λu ρ k=>k (ρ.set i (.sh u))
def aLd(is:List Nat):TVg:=λu ρ k=>match u with
 |.tp us=>us.length=is.length/\k ((is.zip us).foldl (λρ x=>ρ.set x.1 (.sh x.2)) ρ)
 |_=>False
def iG(g:TVg)(b:TVS)(E:uJ):List U->EV->Prop
 | [],ρ=>E.nx ρ
 |u::r,ρ=>g u ρ λρ1=>b {E with nx:=iG g b E r,ct:=iG g b E r,bk:=E.nx} ρ1
def bDe(g:TVg)(F:TVa)(b:TVS):TVS:=λE ρ=>F ρ λl=>iG g b E l ρ
def bDb(g:TVg)(F:TV):TVS:=λE ρ=>F ρ λs=>s.es λu=>g u ρ E.nx
def bA:VSs X [] bB1:=#[_,gK,λo h i=>i.nx o h]
def aG{st:Stmt}{G:TVS}(h:VS X st G):VSs X [st] G:=let⟨_,p,f⟩:=h;#[_,cV p,f]
def aD{st:Stmt}{F G:TVS}(h:VS X st F)(h':VSs X rest G):VSs X (st::rest) (bDn F G):=
 let⟨_,p,f⟩:=h;let⟨_,p',f'⟩:=h';#[_,bB p p',λo h i=>f o h #[λo1 h1=>f' o1 h1 i,i.bk,i.ct,i.rt,i.mr]]
def fU{st:List Stmt}{G:TVS}(i:Nat)(h:VSs X st G):VSs X st (aYu i G):=let⟨_,p,f⟩:=h;⟨_,p,λo h j=>by
 unfold aYu at h;split at h
 ·rename_i hi;exact f (o.frz hi rfl aZ4) h j
 ·rename_i hi;exact f (o.frz hi rfl aZ5) h j
 ·exact f o h j⟩
def cB{c:Cr}{a b:List Stmt}{C:TVc}{F G:TVS}(hc:VC X c C)(ha:VSs X a F)(hb:VSs X b G):VS X (.If c a b pos) (vIf C F G):=
 let⟨_,p,f⟩:=hc;let⟨_,p1,f1⟩:=ha;let⟨_,p2,f2⟩:=hb;⟨_,qC p p1 p2,λo h i=>f o.ee h λc H1 h1 w=>by
  cases c with
  |true=>exact aGj (f1 (o.to w) (h1.1 rfl) i)
  |false=>exact rQ (f2 (o.to w) (h1.2 rfl) i)⟩
def aBc{W B:Addr->Prop}{H0 H H1:Hp}{A:Nat->Addr->Prop}{ρ:EV}{σ:St}{s:Sl}{k:EV->Prop}{Q:St->Hp->Prop}(o:EO W B H0 A ρ σ H)(f:Fw W H H1)(r:RO W (Bx B A) H H1 s v)(h:aYz i ρ k s)(q:∀{A' ρ' σ'},EO W B H0 A' ρ' σ' H1->k ρ'->Q σ' H1):Q (σ.set i (some v)) H1:=by
 match s,r,h with
 |.sh u,r,h=>exact q ((o.to f).setSh r) h
 |.ow l,⟨p,xs,e1,h1,h2,h3⟩,h=>
  subst e1;exact q (o.setOw f h1 h2 h3) h
 |.oo w,⟨p,S,e1,h1,h2⟩,h=>
  subst e1;exact q (o.setOo f (s:=.oo w) rfl rfl h1 h2) h
def aZ{x:Str}{e:Cr}{pos pos':Pos}{F:TV}(hN:X.N.Nodup)(he:VE X e F)(hi:X.N[i]? =some x:=by rfl)(hx:Loc X.env.scope x:=by first|exact Dl rfl|exact Dr rfl)(hs:Fe e (some (.Name x pos')) pos.line X.env=pure false:=by rfl)(hf:FL X x:=by trivial):
  VS X (.Assign [.Name x pos'] e pos) (aRv i F):=
 let⟨_,p,f⟩:=he;#[_,aBb hN hi hx p hs hf,λo h j=>f o.ee h λs v H1 h1 w r=>aBc o w r h1 j.nx]
def aU{e:Cr}{F:TV}(he:VE X e F):VS X (.Return (some e) pos) (bDl F):=
 let⟨_,p,f⟩:=he;⟨_,xV p,λ{W B H0 A ρ σ H E D} o h j=>f o.ee h λs v H1 h1 w r=>by
  have fw:=o.fw.trans w;have less:∀{H:Hp} b(x:HO),¬Bx B A b->H b=some x->¬B b/\H b=some x:=λb x n h=>#[λz=>n (.inl z),h];match s,h1,r with
  |.sh u,h1,r=>exact j.rt fw (s:=.sh u) (DU.mono less u r) h1
  |.ow l,h1,⟨p,xs,e1,h2,h3,h4⟩=>
   refine j.rt fw (s:=.ow l) ?_ h1;exact RO.back (s:=.ow l) o.fw #[p,xs,e1,h2,h3,DUs.mono (λb x n h=>#[λz=>n (z.elim (λz=> .inl (.inl z)) .inr),h]) l h4]
  |.oo w,h1,⟨p,S,e1,h2,h3⟩=>
   refine j.rt fw (s:=.oo w) ?_ h1;exact RO.back (s:=.oo w) o.fw #[p,S,e1,h2,w.mono (λb x n h=>#[λz=>n (z.elim (λz=> .inl (.inl z)) .inr),h]) (λ_ _=>rfl) h3]
  |.no,_,r=>exact r.elim⟩
def jU{x:Str}{pos p':Pos}(i:Nat)(hN:X.N[i]? =some x:=by rfl)(hv:Vis X.env.scope x:=by trivial)(hd:ND x:=by decide)
  (hcd:NC x:=by decide):VS X (.Return (some (.Name x p')) pos) (aRu i):=⟨_,xV (pF hN hv hd hcd),λ{W B H0 A ρ σ H E D} o h j=>by
 unfold aRu at h;have less:∀{H:Hp} b(x:HO),¬Bx B A b->H b=some x->¬B b/\H b=some x:=λb x n h=>#[λz=>n (.inl z),h];split at h
 ·rename_i u hs;obtain⟨v,h1,h2⟩:=o.sh i u hs;exact#[v,h1,j.rt (s:=.sh u) o.fw (DU.mono less u h2) h]
 ·rename_i l hs;obtain⟨p,xs,h1,h2,h3,h4⟩:=o.ow i l hs;exact#[_,h1,j.rt (s:=.ow l) o.fw #[p,xs,rfl,o.an i p ((h2 p).mpr rfl),h3,DUs.mono (λb x n h=>#[λz=>n (z.elim .inl λe=> .inr #[i,(h2 b).mpr e]),h]) l h4] h]
 ·rename_i w hs;obtain⟨p,h1,h3⟩:=o.hd i _ w hs rfl;exact#[_,h1,j.rt (s:=.oo w) o.fw #[p,_,rfl,o.an i,w.mono (λb x n h=>#[λz=>n (z.elim .inl λe=> .inr #[i,e]),h]) (λ_ _=>rfl) h3] h]
 ·exact h.elim⟩
def vK{x:Str}{a:Cr}{p' apos cpos pos:Pos}{F:TV}(i:Nat)(ha:VE X a F)(hN:X.N[i]? =some x:=by rfl)(hv:Vis X.env.scope x:=by trivial)(hd:ND x:=by decide)
  (hcd:NC x:=by decide)
  (hbase:He (.Name x p') "append" X.env (eval (.Name x p') X.env)=eval (.Name x p') X.env:=by rfl)
  (hfew:((Np cpos (Ca [a] X.env)).all (λx=> !x.1) && (Gx cpos (Ed [] X.env)).all (λx=>x.1.isSome)
   && decide ([a].length+([]:List Lw).length+(if([]:List Lw).isEmpty then 0 else 1)<30))=true:=by rfl)
  (hline:EL apos cpos:=by rfl) (hs:SE X a []:=by rfl) (hplain:BT X cpos []:=by rfl)
  (hsw:Fe (.Call (.Attribute (.Name x p') "append" apos) [a] [] cpos) none pos.line X.env=pure false:=by rfl):
  VS X (.Expr (.Call (.Attribute (.Name x p') "append" apos) [a] [] cpos) pos) (bBq i F):=
 let⟨_,p,f⟩:=ha;⟨_,qR (aK2 Jo Qo Qn xN (pF hN hv hd hcd) (bZ p dN hs) hbase hfew hline hs hplain) hsw,λ{W B H0 A ρ σ H E D} o h j=>by
  unfold bBq at h;split at h
  ·rename_i l hi;obtain⟨q,xs,h1,h2,h3,h4⟩:=o.ow i l hi;refine#[_,h1,.inl #[rfl,_,SqL.of h3],f o.ee h.2 λs v H1 h5 w r=>?_];obtain⟨u,h6,d⟩:=r.du o.ee.eb h5;have o1:=o.to w;obtain⟨q',ys,g1,g2,g3,g4⟩:=o1.ow i l hi;rw[h1]at g1;cases g1;refine#[q,ys,v,rfl,rfl,g3,?_,j.nx (o1.own h1 h2 (g4.app (DUs.one d))) h6];have:=g4.length;have:(10000:Nat)<=sizeLine:=by decide
   lia
  ·exact h.elim⟩
def yI{x:Str}{a:Cr}{p' apos cpos pos:Pos}{F:TV}(i:Nat)(ha:VE X a F)(hN:X.N[i]? =some x:=by rfl)(hv:Vis X.env.scope x:=by trivial)(hd:ND x:=by decide)
  (hcd:NC x:=by decide)
  (hbase:He (.Name x p') "extend" X.env (eval (.Name x p') X.env)=eval (.Name x p') X.env:=by rfl)
  (hfew:((Np cpos (Ca [a] X.env)).all (λx=> !x.1) && (Gx cpos (Ed [] X.env)).all (λx=>x.1.isSome)
   && decide ([a].length+([]:List Lw).length+(if([]:List Lw).isEmpty then 0 else 1)<30))=true:=by rfl)
  (hline:EL apos cpos:=by rfl) (hs:SE X a []:=by rfl) (hplain:BT X cpos []:=by rfl)
  (hsw:Fe (.Call (.Attribute (.Name x p') "extend" apos) [a] [] cpos) none pos.line X.env=pure false:=by rfl):
  VS X (.Expr (.Call (.Attribute (.Name x p') "extend" apos) [a] [] cpos) pos) (aYt i F):=
 let⟨_,p,f⟩:=ha;⟨_,qR (aK2 Jo PySem.F.slot_list_extend PySem.F.type_list_extend aMh (pF hN hv hd hcd) (bZ p dN hs) hbase hfew hline hs hplain) hsw,λ{W B H0 A ρ σ H E D} o h j=>by
  unfold aYt at h
  split at h
  ·rename_i l hi
   obtain⟨q,xs,h1,h2,h3,h4⟩:=o.ow i l hi
   refine#[_,h1,.inl #[rfl,_,SqL.of h3],f o.ee h λs v H1 h5 w r=>?_]
   have d:=r.db o.ee.eb
   revert h5 d
   generalize s.rd=u
   intro h5 d
   split at h5<;>try exact h5.elim
   rename_i m
   have o1:=o.to w
   obtain⟨q',ys,g1,g2,g3,g4⟩:=o1.ow i l hi
   rw[h1]at g1
   cases g1
   obtain⟨b,zs,rfl,_,b2,b3⟩:=d.ls (o.ee.to w).eb
   refine#[q,b,ys,zs,rfl,rfl,g3,b2,?_,j.nx (o1.own h1 h2 (g4.app b3)) h5.2]
   have:=g4.length
   have:=b3.length
   have:(10000:Nat)<=sizeLine:=by decide
   lia
  ·exact h.elim⟩
def cR{x:Str}(hN:X.N.Nodup)(hi:X.N[i]? =some x:=by rfl)(hx:Loc X.env.scope x:=by first|exact Dl rfl|exact Dr rfl)(hf:FL X x:=by trivial):VG X (.Name x pos) (iC i):=
 #[_,aW hN hi hx hf,λo d h q=>q _ _ _ (o.setSh d) h]
def mX:VGs X [] []:=⟨_,tX,λ{W B H0 A ρ σ H us vs k Q} o d l h q=>by
 match us,l with
 | [],_=>exact#[d,q _ _ _ o h]⟩
def cF{x:Str}(hN:X.N.Nodup)(h2:VGs X es is)(hi:X.N[i]? =some x:=by rfl)(hx:Loc X.env.scope x:=by first|exact Dl rfl|exact Dr rfl)(hf:FL X x:=by trivial)
  (hs:(Ib (.Name x pos::es) X.env).map (·.2)=assign (.Name x pos) X.env::(Ib es X.env).map (·.2):=by rfl):VGs X (.Name x pos::es) (i::is):=
 let⟨_,p,f⟩:=h2;⟨_,fY (aW hN hi hx hf) p hs,λ{W B H0 A ρ σ H us vs k Q} o d l h q=>by
  match us,d,l with
  |u::us,⟨v,r,e,d1,d2⟩,l=>
   refine#[v,r,e,f (o.setSh (i:=i) d1) (DUs.mono (λb x n h=>#[λz=>n (z.elim .inl λ⟨j,e⟩=> .inr #[j,e.2]),h]) us d2) (Kw l) h q]⟩
def rJ{c:Nat}(hc:X.calm=true)(h:VGs X es is)(hl:is.length=n:=by rfl)(hn:(Ib es X.env).length=n:=by rfl)(hst:(Ib es X.env).findIdx? (·.1)=none:=by rfl):VG X (.Tuple es c pos) (aLd is):=
 let⟨_,p,f⟩:=h;⟨_,xR hc p hn hst,λ{W B H0 A ρ σ H u v k Q} o d h q=>by
  match u,d,h with
  |.tp us,⟨a,xs,e,_,ha,ds⟩,⟨l,h⟩=>exact#[a,xs,e,SqT.of ha,by rw[<-ds.length,l,hl],f o ds l h q]⟩
def aJ3{tg e:Cr}{F:TV}{G:TVg}(he:VE X e F)(hg:VG X tg G)(hs:Vn [tg] e pos.line X.env=pure false:=by rfl)(hw:Vo [tg] e X.env=pure none:=by rfl)(h1:(Ib [tg] X.env).map (·.2)=[assign tg X.env]:=by rfl):VS X (.Assign [tg] e pos) (bDb G F):=
 let⟨_,p,f⟩:=he;let⟨_,p',f'⟩:=hg;⟨_,aEq p p' hs hw h1,λo h j=>f o.ee h λs v H1 h1 w r=>by
  obtain⟨u,h2,d⟩:=r.du o.ee.eb h1;exact f' (o.to w) d h2 λA' ρ' σ' o' h'=>j.nx o' h'⟩
abbrev Tr(B:Addr->Prop)(H1:Hp)(B2:Addr->Prop)(H2:Hp):Prop:=∀b o,¬B b->H1 b=some o->¬B2 b/\H2 b=some o
structure WkU(W B:Addr->Prop)(H1:Hp)(J:It)(l:List U):Prop where
 stop:∀{B2 H2},Tr B H1 B2 H2->J.stop l.length H2
 go:∀{B2 H2} i,Tr B H1 B2 H2->i<l.length->J.go i H2
 yld:∀{B2 H2}(i:Nat){x H' u},EB W B2 H2->Tr B H1 B2 H2->l[i]? =some u->J.yld i H2 x H'->Fw W H2 H'/\DU W B2 H' u x
def VTi(wi:TI)(F:TVa):Prop:=∀{W B:Addr->Prop}{ρ:EV}{σ:St}{H:Hp}{R:List U->Prop}{Q:It->Hp->Prop},EE W B H ρ σ->F ρ R->(∀l J H',R l->Fw W H H'->WkU W B H' J l->Q J H')->wi σ H Q
def VI(X:Cx)(tg iter:Cr)(F:TVa):Prop:=∃wi,PI X tg iter wi/\VTi wi F
def vLs(F:TV):TVa:=λρ R=>F ρ λs=>s.es λu=>match u with
 |.ls l=>R l
 |_=>False
def vTp(F:TV):TVa:=λρ R=>F ρ λs=>s.es λu=>match u with
 |.tp l=>R l
 |_=>False
def aUz{W B:Addr->Prop}{H:Hp}{K:Ad}{l:List U}{xs:List V}(nb:¬B a)(ha:H a=some (.lst xs))(ds:DUs W B H l xs):WkU W B H (Itl K a) l:=
 ⟨λt=>#[xs,SqL.of (t a _ nb ha).2,by rw[ds.length];exact Ak _],λi t h=>#[xs,xs[i]'(by rw[<-ds.length];exact h),SqL.of (t a _ nb ha).2,Ag _],λi x H' u e t h y=>by
  obtain⟨rfl,y⟩:=y;obtain⟨x',h1,d⟩:=ds.get h;rw[y xs (SqL.of (t a _ nb ha).2)]at h1;cases h1;exact#[e.refl,DU.mono t u d]⟩
def aZh{W B:Addr->Prop}{H:Hp}{K:Ad}{l:List U}{xs:List V}(nb:¬B a)(ha:H a=some (.tup xs))(ds:DUs W B H l xs):WkU W B H (Itt K a) l:=
 ⟨λt=>#[xs,SqT.of (t a _ nb ha).2,by rw[ds.length];exact Ak _],λi t h=>#[xs,xs[i]'(by rw[<-ds.length];exact h),SqT.of (t a _ nb ha).2,Ag _],λi x H' u e t h y=>by
  obtain⟨rfl,y⟩:=y;obtain⟨x',h1,d⟩:=ds.get h;rw[y xs (SqT.of (t a _ nb ha).2)]at h1;cases h1;exact#[e.refl,DU.mono t u d]⟩
def gU(lo:Int)(n:Nat):List U:=(Bq n).map λi:Nat=> .n (lo+(i:Int))
def aHv{W B:Addr->Prop}{H:Hp}{lo:Int}{n:Nat}:WkU W B H (Itr lo n) (gU lo n):=
 ⟨λ_=>by show n<=_;simp[gU],λi _ h=>by show i<n;simpa[gU]using h,λi x H' u e _ h y=>by
  obtain⟨rfl,rfl⟩:=y;unfold gU at h;rw[Bg]at h;cases q:(Bq n)[i]? with
  |none=>rw[q]at h;cases h
  |some j=>
   rw[q]at h;cases h;have hj:=(Ay.mp q).2;rw[List.getElem_range]at hj;subst hj;exact#[e.refl,rfl,rfl]⟩
def aX{tg e:Cr}{F:TV}(h:VE X e F):VI X tg e (vLs F):=let⟨_,p,f⟩:=h;⟨_,aTy p,λe h q=>f e h λs v H1 h1 w r=>by
 obtain⟨u,h2,d⟩:=r.du e.eb h1;match u,h2,d with
 |.ls l,h2,⟨a,xs,e1,nb,ha,ds⟩=>exact#[a,e1,#[xs,SqL.of ha],q l _ _ h2 w (aUz nb ha ds)]⟩
def aR7{tg e:Cr}{F:TV}(h:VE X e F):VI X tg e (vTp F):=let⟨_,p,f⟩:=h;⟨_,aXy p,λe h q=>f e h λs v H1 h1 w r=>by
 obtain⟨u,h2,d⟩:=r.du e.eb h1;match u,h2,d with
 |.tp l,h2,⟨a,xs,e1,nb,ha,ds⟩=>exact#[a,e1,#[xs,SqT.of ha],q l _ _ h2 w (aZh nb ha ds)]⟩
def vRg(F:TVa):TVa:=λρ R=>F ρ λus=>match us with
 | [.v (.int j)]=> -(2 ^ 62)<=j/\j<2 ^ 62/\R (gU 0 j.toNat)
 |_=>False
def bDm(F:TVa):TVa:=λρ R=>F ρ λus=>match us with
 | [.v (.int i),.v (.int j)]=>(-(2 ^ 62)<=i/\i<2 ^ 62/\ -(2 ^ 62)<=j/\j<2 ^ 62)/\R (gU i (j-i).toNat)
 |_=>False
def eY{tg a:Cr}{F:TVa}{p pos:Pos}(hm:X.mg "range"=none)(hi:VB X [a] F)(hgl:Gl X "range":=by rfl)(hs1:Ca [a] X.env=[(false,eval a X.env)]:=by rfl):VI X tg (.Call (.Name "range" p) [a] [] pos) (vRg F):=
 let⟨_,p,f⟩:=hi;⟨_,aM2 hgl hm p hs1,λe h q=>f e h λus vs H1 h1 w d=>by
  match us,h1,d with
  | [.v (.int i)],⟨h2,h3,h4⟩,⟨x,r,e,d1,d2⟩=>
   obtain rfl:r=[]:=d2;rw[d1.int]at e;exact#[i,e,h2,h3,q _ _ _ h4 w aHv]⟩
def aDb{tg a b:Cr}{F:TVa}{p pos:Pos}(hm:X.mg "range"=none)(hi:VB X [a,b] F)(hgl:Gl X "range":=by rfl)(hs1:#v[n]:=by rfl)(hs2:Ca [b] X.env=[(false,eval b X.env)]:=by rfl):VI X tg (.Call (.Name "range" p) [a,b] [] pos) (bDm F):=
 let⟨_,p,f⟩:=hi;⟨_,aM3 hgl hm p hs1 hs2,λe h q=>f e h λus vs H1 h1 w d=>by
  match us,h1,d with
  | [.v (.int i),.v (.int j)],⟨h2,h4⟩,d=>
   obtain⟨x,_,e,d1,y,r,rfl,d2,d3⟩:=d;obtain rfl:r=[]:=d3;rw[d1.int,d2.int]at e;exact#[i,j,e,h2,q _ _ _ h4 w aHv]⟩
def iD(l:List U):List U:=l.zipIdx.map λx=> .tp [.n (x.2:Nat),x.1]
def aUy{W B:Addr->Prop}{H:Hp}{K:Ad}{l:List U}{xs:List V}(nb:¬B a)(ha:H a=some (.lst xs))(ds:DUs W B H l xs):WkU W B H (Ite K a) (iD l):=
 ⟨λt=>#[xs,SqL.of (t a _ nb ha).2,by simp[iD,ds.length]],λi t h=>#[xs,xs[i]'(by rw[<-ds.length];simpa[iD]using h),SqL.of (t a _ nb ha).2,Ag _],λi x H' u e t h y=>by
  obtain⟨p,x',n,rfl,rfl,y⟩:=y;have hx:=y xs (SqL.of (t a _ nb ha).2);obtain⟨u',hu,d⟩:=ds.getV hx;have hu2:(iD l)[i]? =some (.tp [.n (i:Nat),u']):=by simp[iD,Bg,List.getElem?_zipIdx,hu]
  rw[h]at hu2;cases hu2;have f:=e.new (o:=.tup [.int i,x']) n;exact#[f,p,_,rfl,e.nw n,aP,_,_,rfl,#[rfl,rfl],_,_,rfl,DU.mono (λb o n h=>e.keep f b o (t b o n h).1 (t b o n h).2) u' d,rfl]⟩
def vEn(F:TVa):TVa:=λρ R=>F ρ λus=>match us with
 | [.ls l]=>R (iD l)
 |_=>False
def aE6{es:List Cr}{a:Cr}{F:TVa}{p pos:Pos}(hm:X.mg "enumerate"=none)(hi:VA X [a] F)(hgl:Gl X "enumerate":=by rfl)(hs1:Ca [a] X.env=[(false,eval a X.env)]:=by rfl):VI X (.Tuple es k pos') (.Call (.Name "enumerate" p) [a] [] pos) (vEn F):=
 let⟨_,p,f⟩:=hi;⟨_,aTx hgl hm p hs1,λe h q=>f e h λus vs H1 h1 _ w d=>by
  match us,h1,d with
  | [.ls l],h4,d=>
   obtain⟨x,r,e,⟨a,xs,rfl,nb,ha,ds⟩,d2⟩:=d;obtain rfl:r=[]:=d2;exact#[a,e,#[xs,SqL.of ha],q _ _ _ h4 w (aUy nb ha ds)]⟩
def wW:List U->List U->List U:=List.zipWith λa b=> .tp [a,b]
def aZj{l m:List U}{u v:U}(h1:l[i]? =some u)(h2:m[i]? =some v):(wW l m)[i]? =some (.tp [u,v]):=by simp[wW,List.getElem?_zipWith,h1,h2]
def aZi{W B:Addr->Prop}{H:Hp}{K:Ad}{a b:Addr}{l m:List U}{xs ys:List V}(hl:l.length<=m.length)(nb:¬B a)(ha:H a=some (.tup xs))(ds:DUs W B H l xs)(nb':¬B b)(hb:H b=some (.lst ys))(ds':DUs W B H m ys):WkU W B H (Itz K a b) (wW l m):=by
 have e1:=ds.length;have e2:=ds'.length;have e3:(wW l m).length=l.length:=by simp[wW];lia
 refine#[λt=>#[xs,SqT.of (t a _ nb ha).2,∅],λi t h=>#[xs,ys,xs[i]'∅,ys[i]'∅,SqT.of (t a _ nb ha).2,SqL.of (t b _ nb' hb).2,Ag _,Ag _],λi x H' u e t h y=>?_];obtain⟨p,x',y',n,rfl,rfl,hx,hy⟩:=y;obtain⟨u1,hu1,d1⟩:=ds.getV (hx xs (SqT.of (t a _ nb ha).2));obtain⟨u2,hu2,d2⟩:=ds'.getV (hy ys (SqL.of (t b _ nb' hb).2));rw[aZj hu1 hu2]at h;cases h;have f:=e.new (o:=.tup [x',y']) n;have k:=λb o n h=>e.keep f b o (t b o n h).1 (t b o n h).2;exact#[f,p,_,rfl,e.nw n,aP,_,_,rfl,DU.mono k u1 d1,_,_,rfl,DU.mono k u2 d2,rfl]
def vZp(F:TVa):TVa:=λρ R=>F ρ λus=>match us with
 | [.tp l,.ls m]=>l.length<=m.length/\R (wW l m)
 |_=>False
def aZb{es:List Cr}{a b:Cr}{F:TVa}{p pos:Pos}(hm:X.mg "zip"=none)(hi:VA X [a,b] F)(hgl:Gl X "zip":=by rfl)(hs1:#v[n]:=by rfl)(hs2:Ca [b] X.env=[(false,eval b X.env)]:=by rfl):VI X (.Tuple es k pos') (.Call (.Name "zip" p) [a,b] [] pos) (vZp F):=
 let⟨_,p,f⟩:=hi;⟨_,aXz hgl hm p hs1 hs2,λe h q=>f e h λus vs H1 h1 _ w d=>by
  match us,h1,d with
  | [.tp l,.ls m],⟨hl,h4⟩,d=>
   obtain⟨x,_,e,⟨a,xs,rfl,nb,ha,ds⟩,y,r,rfl,⟨b,ys,rfl,nb',hb,ds'⟩,d2⟩:=d;obtain rfl:r=[]:=d2;exact#[a,b,e,#[xs,SqT.of ha],#[ys,SqL.of hb],q _ _ _ h4 w (aZi hl nb ha ds nb' hb ds')]⟩
def cO{tg iter:Cr}{F:TVa}{G:TVg}{b:TVS}(hp:Wz #v[a] X.A X.env X.xe)(hc:X.calm=true)(hi:VI X tg iter F)(hg:VG X tg G)(hb:VSs X body b)
  (hs:FS X iter:=by intro _;rfl):VS X (.For tg iter body [] pos) (bDe G F b):=
 let⟨_,p,f⟩:=hi;let⟨_,p1,f1⟩:=hg;let⟨_,p2,f2⟩:=hb;⟨_,aX2 hp hc p p1 p2 hs,λ{W B H0 A0 ρ0 σ0 H E D} o0 h j=>f o0.ee h λl J H1 h1 w wk=>by
  have o:=o0.to w;obtain⟨H0',o',rb,kp⟩:=o.reb;have st:∀{A ρ σ H},EO W B H0' A ρ σ H->Tr (Bx B A0) H1 (Bx B A) H:=λ{A ρ σ H} o2 p x n hp=>by
   have h0:=kp p x (λz=>n (.inr z)) hp;refine#[λz=>z.elim (λz=>n (.inl z)) λ⟨i,z⟩=>?_,o2.fw.fr p x (λw=>n (.inl (o.eb.wb p w))) h0];rw[o2.an i p z]at h0;cases h0
  refine#[λi m σ H=>m=l.length-i/\i<=l.length/\∃A ρ,EO W B H0' A ρ σ H/\iG G b E (l.drop i) ρ,#[l.length,by simp,Bp _,A0,ρ0,o',h1],?_];rintro i m σ H ⟨rfl,hi,A,ρ,o2,h2⟩;by_cases hlt:i<l.length
  ·have e:l.drop i=l[i]::l.drop (i+1):=Ha hlt;rw[e]at h2;refine .inr #[wk.go i (st o2) hlt,λσ H=>∃A ρ,EO W B H0' A ρ σ H/\iG G b E (l.drop (i+1)) ρ,λσ' H' h=>#[l.length-(i+1),∅,rfl,hlt,h],λx H' y=>?_];obtain⟨w2,d⟩:=wk.yld i o2.ee.eb (st o2) (Ag hlt) y;exact f1 (o2.to w2) d h2 λA' ρ' σ' o3 h3=>f2 o3 h3 #[λo4 h4=>#[_,_,o4,h4],λo4 h4=>j.nx (o4.un o.eb rb) h4,λo4 h4=>#[_,_,o4,h4],λw r h4=>j.rt #[λb x nw hb=>w.fr b x nw (rb.le b x nw hb),w.wo] (r.un rb) h4,λo4 d4 h4=>j.mr (o4.un o.eb rb) d4 h4]
  ·have e:i=l.length:=by lia
   subst e;rw[Pu]at h2;exact .inl #[wk.stop (st o2),j.nx (o2.un o.eb rb) h2]⟩
def vfn{P:An}{w:Bh}{K:Ad}{mg:Str->#v[10]}{base:Heap}{x qual:Str}{st:Stmt}{f:Addr}{fd:Br}{N ps:List Str}{G:TVS}{F:#v[q]}(Fn:Fun K x qual st f fd)(S:aQ N ps (aC st))
  (hb:∀(ae:Value)(A:Cm)(outer:List Env)(s:Shared)(H:Hp)(E:XK),eZ k (A.deeper (Ro qual (aC st) #v[0] f ae))->VSs (aIm CX0 P w K mg base N qual (aC st) f ae A outer s H E).nox (gF st) G)
  (hF:∀us R,F us R->us.length=ps.length/\G {nx:=λ_=>R (.sh .no),rt:=R} (us.map .sh++Bi (N.length-us.length) .no)):↥(k+1) f fd ps (spV F):=by
 refine Fn.ok S (λvs H Q E h=>?_) (λae A outer s H vs Q E hr h=>?_)
 ·obtain⟨W,B,us,R,eb,d,h,_⟩:=h;rw[<-d.length];exact(hF us R h).1
 ·obtain⟨t,p,g⟩:=hb ae A outer s H E hr;obtain⟨W,B,us,R,eb,d,h,q⟩:=h;refine#[t,p,g (W:=W) (B:=B) (H0:=H) (A:=λ_ _=>False) #[eb,eb.refl,?_,λ_ _ z=>z.elim,λ_ _ z=>z.elim,λ_ _ _ z=>z.elim,λi u h=>?_,λi s w h hs=>?_,λi s h=>?_] (hF us R h).2 #[λo h=>?_,λ_ z=>z.elim,λ_ z=>z.elim,λw r h=>q _ _ _ h w r,λ_ _ z=>z.elim]]
  ·simp only[start,Am,Ab,Ef,d.length]
  ·rw[Kp]at h;split at h
   ·rename_i hl;rw[Ab]at hl;rw[Bg,Ag hl]at h;cases h;obtain⟨v,h1,h2⟩:=d.get (Ag hl);refine#[v,?_,DU.mono (λb x n h=>#[λz=>z.elim n λ⟨_,z⟩=>z,h]) _ h2];unfold start;rw[Dz (by rw[Ab, <-d.length];exact hl),Bg,h1];rfl
   ·rw[Gj]at h;split at h<;>cases h
  ·rw[Kp]at h;split at h
   ·rw[Bg]at h;cases hu:us[i]? <;>rw[hu]at h<;>cases h;cases hs
   ·rw[Gj]at h;split at h<;>cases h;cases hs
  ·rw[Kp]at h;split at h
   ·rw[Bg]at h;cases hu:us[i]? <;>rw[hu]at h<;>cases h;rfl
   ·rw[Gj]at h;split at h<;>cases h;rfl
  ·exact q _ _ _ h o.fw #[rfl,rfl]
inductive ItV(F:TV)(σ:St)(H:Hp)(Q:VK):Prop
 |mk (W B ρ R:_) (q0_:EE W B H ρ σ) (q1_:F ρ R) (q2_:∀s v H',R s->Fw W H H'->RO W B H H' s v->Q v H'):ItV F σ H Q
def tV(F:TV):TE:=λσ H Q=>ItV F σ H Q
inductive aZq(F:TVc)(σ:St)(H:Hp)(Q:(Bool->Hp->Prop)):Prop
 |mk (W B ρ R:_) (q0_:EE W B H ρ σ) (q1_:F ρ R) (q2_:∀c H',R c->Fw W H H'->Q c H'):aZq F σ H Q
def tVc(F:TVc):TT:=λσ H Q=>aZq F σ H Q
def VE.can{X:Cx}{e:Cr}{F:TV}(h:VE X e F):PE X e (tV F):=let⟨_,p,f⟩:=h;λaa s σ H Q I ⟨_,_,_,_,e,h,q⟩=>p aa s σ H Q I (f e h q)
def VC.can{X:Cx}{e:Cr}{F:TVc}(h:VC X e F):PT X e (tVc F):=let⟨_,p,f⟩:=h;λaa s σ H Q I ⟨_,_,_,_,e,h,q⟩=>p aa s σ H Q I (f e h q)
def VTh(own:Nat)(g:TG)(G:TVg):Prop:=∀{W B:Addr->Prop}{H:Hp}{ρ:EV}{σ:St}{u:U}{v:V}{k:EV->Prop}{Q:St->Hp->Prop},EE W B H ρ σ->DU W B H u v->G u ρ k->(∀ρ' σ',EE W B H ρ' σ'->σ'.length=σ.length->(∀i,own<=i->σ'[i]? =σ[i]?)->k ρ'->Q σ' H)->g v σ H Q
def EE.set{W B:Addr->Prop}{H:Hp}{σ:St}(e:EE W B H ρ σ)(d:DU W B H u v):EE W B H (ρ.set i (.sh u)) (σ.set i (some v)):=by
 refine#[e.eb,by rw[Cg,Cg,e.len],λj u' h=>?_,λj s w h hs=>?_]
 ·rcases bT h with ⟨rfl,q,hl⟩|⟨ne,h⟩
  ·cases q;exact#[v,get_set (e.len▸hl),d]
  ·obtain⟨v',h1,h2⟩:=e.sh j u' h;exact#[v',by rw[fX ne];exact h1,h2]
 ·rcases bT h with ⟨rfl,rfl,hl⟩|⟨ne,h⟩
  ·cases hs
  ·obtain⟨p,S,h1,h2⟩:=e.hd j s w h hs;exact#[p,S,by rw[fX ne];exact h1,h2]
def bC{own i:Nat}(h:i<own):VTh own (pY i) (iC i):=λe d h1 q=>q _ _ (e.set d) (Cg ..) (λj hj=>fX ∅) h1
def aI1:List Nat->TGs
 | []=>bAb
 |i::is=>aV1 (pY i) (aI1 is)
theorem aHq{own:Nat}{W B:Addr->Prop}{H:Hp}{Q:St->Hp->Prop}{k:EV->Prop}:∀{is:List Nat}{us:List U}{vs:List V}{ρ:EV}{σ:St},(∀i∈is,i<own)->EE W B H ρ σ->DUs W B H us vs->us.length=is.length->k ((is.zip us).foldl (λρ x=>ρ.set x.1 (.sh x.2)) ρ)->
  (∀ρ' σ',EE W B H ρ' σ'->σ'.length=σ.length->(∀i,own<=i->σ'[i]? =σ[i]?)->k ρ'->Q σ' H)->aI1 is vs σ H Q
 | [],[],_,_,_,_,e,d,_,h,q=>#[d,q _ _ e rfl (λ_ _=>rfl) h]
 |i::is,u::us,_,ρ,σ,hi,e,⟨v,r,e1,d1,d2⟩,l,h,q=>#[v,r,e1,aHq (λj hj=>hi j (Af _ hj)) (e.set (i:=i) d1) d2 (Kw l) h λρ' σ' e' l' a' h'=>q ρ' σ' e' (l'.trans (Cg ..)) (λj hj=>(a' j hj).trans (fX (by have:=hi i Ah;lia))) h']
def aBp{own:Nat}{K:Ad}{is:List Nat}{n:Nat}(hl:is.length=n)(h:∀i∈is,i<own):VTh own (bAe K n (aI1 is)) (aLd is):=λ{W B H ρ σ u v k Q} e d h1 q=>by
 match u,d,h1 with
 |.tp us,⟨a,xs,e1,_,ha,ds⟩,⟨l,h1⟩=>exact#[a,xs,e1,SqT.of ha,by rw[<-ds.length,l,hl],aHq h e ds l h1 q]
def aWv:Sl->Sl
 |.ow l=> .br l
 |.oo w=> .bo w
 |s=>s
def aLv:∀s:Sl,(aWv s).hold=s.hold
 |.no=>rfl
 |.sh _=>rfl
 |.ow _=>rfl
 |.br _=>rfl
 |.oo _=>rfl
 |.bo _=>rfl
def uA(no:Nat)(cap:#v[12])(ρ:EV):EV:=Bi no .no++cap.map λp=>match (ρ[p.2]? :Option Sl)with
 |some s=>aWv s
 |_=> .no
def aD2(h:(uA no cap ρ)[i]? =some s)(hs:s≠.no):∃(j:Nat)(s0:Sl),no<=i/\(∀σ:St,(oA no cap σ)[i]? =some ((σ[j]? :Option (Option V))).join)/\ρ[j]? =some s0/\s=aWv s0:=by
 unfold uA at h;rw[Kp]at h;split at h
 ·rw[Gj]at h;split at h
  ·cases h;exact(hs rfl).elim
  ·cases h
 ·rename_i hn;rw[Ef]at hn h;rw[Bg]at h;cases hc:cap[i-no]? with
  |none=>rw[hc]at h;cases h
  |some p=>
   rw[hc]at h;have h':=Bs h;dsimp only at h';split at h'
   ·rename_i s0 h0;refine#[p.2,s0,∅,λσ=>?_,h0,h'.symm];unfold oA;rw[Ek (by rw[Ef];lia),Ef,Bg,hc];rfl
   ·exact(hs h'.symm).elim
def EE.cap{W B:Addr->Prop}{H:Hp}{ρ:EV}{σ:St}{no:Nat}{cap:#v[12]}(e:EE W B H ρ σ):EE W B H (uA no cap ρ) (oA no cap σ):=by
 refine#[e.eb,by simp[uA,oA],λi u h=>?_,λi s w h hs=>?_]
 ·obtain⟨j,s0,_,c,h,e0⟩:=aD2 h (by intro z;cases z);have:s0=.sh u:=by cases s0<;>cases e0<;>rfl
  obtain⟨v,h1,h2⟩:=e.sh j u (this▸h);exact#[v,by rw[c,h1];rfl,h2]
 ·obtain⟨j,s0,_,c,h0,rfl⟩:=aD2 h (by rintro rfl;cases hs);rw[aLv]at hs;obtain⟨p,S,h1,h2⟩:=e.hd j s0 w h0 hs;exact#[p,S,by rw[c,h1];rfl,h2]
def jA(f:U->(Option U->Prop)->Prop):List U->List U->(List U->Prop)->Prop
 | [],af,R=>R af
 |u::r,af,R=>f u λo=>match o with
  |some x=>jA f r (af++[x]) R
  |none=>jA f r af R
def bBs(G:TVg)(F:TV)(ρ:EV):U->(Option U->Prop)->Prop:=λu k=>G u ρ λρ1=>F ρ1 λs=>s.es λx=>k (some x)
def aYs(G:TVg)(C:TVc)(F:TV)(ρ:EV):U->(Option U->Prop)->Prop:=λu k=>G u ρ λρ1=>C ρ1 λc=>(c=true->F ρ1 λs=>s.es λx=>k (some x))/\(c=false->k none)
structure CI(W B:Addr->Prop)(H1:Hp)(D:Addr)(ρ:EV)(us:List U)(af:List V)(σ:St)(H:Hp):Prop where
 ee:EE W (λb=>B b∨b=D) H ρ σ
 od:∀(i:Nat)(s:Sl)(w:Own),ρ[i]? =some s->s.hold=some w->∃p S,σ[i]? =some (some (V.ref p))/\(∀b,S b->¬W b)/\¬S D/\w.φ W (λb=>B b∨b=D) S H p
 fw:Fw W H1 H
 dl:H D=some (.lst af)
 du:DUs W (λb=>B b∨b=D) H us af
def EE.plus{W B:Addr->Prop}{H:Hp}{ρ:EV}{σ:St}{D:Addr}{x:HO}(e:EE W B H ρ σ)(n:H D=none)(m:Mt x:=by trivial):EE W (λb=>B b∨b=D) (upd H D x) ρ σ:=by
 have f:=e.eb.new (o:=x) n;have k:∀b o,¬B b->H b=some o->¬(B b∨b=D)/\upd H D x b=some o:=λb o nb h=>#[λz=>z.elim nb (aR h n),(e.eb.keep f b o nb h).2];refine#[#[λp hp=>?_,λp hp=> .inl (e.eb.wb p hp),f.wo],e.len,λi u h=>?_,λi s w h hs=>?_]
 ·rcases hp with hp|hp
  ·exact(e.eb.to f).bl p hp
  ·rw[hp,aP];exact#[_,rfl,m]
 ·obtain⟨v,h1,h2⟩:=e.sh i u h;exact#[v,h1,DU.mono k u h2]
 ·obtain⟨p,S,h1,h2,h3⟩:=e.hd i s w h hs;exact#[p,S,h1,h2,w.mono k (λb hb=>let⟨y,hx,_⟩:=w.th h3 b hb;aN (aR hx n)) h3]
def EE.as{W B:Addr->Prop}{H:Hp}{σ σ':St}(e:EE W B H ρ σ)(ρo:∀(i:Nat)(s:Sl),ρ[i]? =some s->s≠Sl.no->σ'[i]? =σ[i]?)(l:σ'.length=σ.length):EE W B H ρ σ':=
 ⟨e.eb,e.len.trans l.symm,λi u h=>by rw[ρo i _ h (by intro z;cases z)];exact e.sh i u h,λi s w h hs=>by
  rw[ρo i s h (by rintro rfl;cases hs)];exact e.hd i s w h hs⟩
def CI.to{W B:Addr->Prop}{H1 H H2:Hp}{D:Addr}{ρ:EV}{us:List U}{af:List V}{σ σ':St}(c:CI W B H1 D ρ us af σ H)(nw:¬W D)(f:Fw W H H2)(ρo:∀(i:Nat)(s:Sl),ρ[i]? =some s->s≠Sl.no->σ'[i]? =σ[i]?)(l:σ'.length=σ.length):CI W B H1 D ρ us af σ' H2:=
 ⟨(c.ee.to f).as ρo l,λi m w h hs=>by
  rw[ρo i m h (by rintro rfl;cases hs)];obtain⟨p,S,h1,h2,h3,h4⟩:=c.od i m w h hs;exact#[p,S,h1,h2,h3,w.to c.ee.eb f h2 h4],c.fw.trans f,f.fr _ _ nw c.dl,DUs.mono (c.ee.eb.keep f) us c.du⟩
def CI.put{W B:Addr->Prop}{H1 H:Hp}{D:Addr}{ρ:EV}{us:List U}{af:List V}{σ:St}{u:U}(c:CI W B H1 D ρ us af σ H)(n1:H1 D=none)(nw:¬W D)(d:DU W (λb=>B b∨b=D) H u v):CI W B H1 D ρ (us++[u]) (af++[v]) σ (upd H D (.lst (af++[v]))):=by
 have k:∀b o,¬(B b∨b=D)->H b=some o->¬(B b∨b=D)/\upd H D (.lst (af++[v])) b=some o:=λb o nb h=>#[nb,(aN (λz=>nb (.inr z))).trans h];have ww:∀p,W p->Wll (upd H D (.lst (af++[v]))) p:=λp hp=>by
  obtain⟨x,y,z,h⟩:=c.fw.wo p hp;exact#[x,y,z,(aN (λq:p=D=>nw (by rw[<-q];exact hp))).trans h]
 have od:∀(i:Nat)(s:Sl)(w:Own),ρ[i]? =some s->s.hold=some w->∃p S,σ[i]? =some (some (V.ref p))/\(∀b,S b->¬W b)/\¬S D/\w.φ W (λb=>B b∨b=D) S (upd H D (.lst (af++[v]))) p:=λi s w h hs=>by
  obtain⟨p,S,h1,h2,h3,h4⟩:=c.od i s w h hs;exact#[p,S,h1,h2,h3,w.mono k (λb hb=>aN (λq:b=D=>h3 (by rw[<-q];exact hb))) h4]
 refine#[#[#[λp hp=>?_,c.ee.eb.wb,ww],c.ee.len,λi u' h=>?_,λi m w h hs=>let⟨p,S,h1,h2,_,h4⟩:=od i m w h hs;#[p,S,h1,h2,h4]],od,#[λb o w h=>?_,ww],aP,DUs.mono k _ (c.du.app (DUs.one d))]
 ·by_cases z:p=D
  ·rw[z,aP];exact#[_,rfl,trivial]
  ·rw[aN z];exact c.ee.eb.bl p hp
 ·obtain⟨v',h1,h2⟩:=c.ee.sh i u' h;exact#[v',h1,DU.mono k u' h2]
 ·rw[aN (aR h n1)];exact c.fw.fr b o w h
def aN9{no:Nat}{cap:#v[12]}{ρ:EV}{σ σ':St}(a:∀i,no<=i->σ'[i]? =σ[i]?):∀(i:Nat)(s:Sl),(uA no cap ρ)[i]? =some s->s≠Sl.no->σ'[i]? =σ[i]? :=λi s h n=>let⟨_,_,q,_⟩:=aD2 h n;a i q
structure WkC(W B:Addr->Prop)(H1:Hp)(J:It)(l:List U):Prop where
 stop:∀{B2 H2},Tr B H1 B2 H2->Fw W H1 H2->J.stop l.length H2
 go:∀{B2 H2} i,Tr B H1 B2 H2->Fw W H1 H2->i<l.length->J.go i H2
 yld:∀{B2 H2}(i:Nat){x H' u},EB W B2 H2->Tr B H1 B2 H2->Fw W H1 H2->l[i]? =some u->J.yld i H2 x H'->Fw W H2 H'/\DU W B2 H' u x
def aSh(wi:TI)(F:TVa):Prop:=∀{W B:Addr->Prop}{ρ:EV}{σ:St}{H:Hp}{R:List U->Prop}{Q:It->Hp->Prop},EE W B H ρ σ->F ρ R->(∀l J H',R l->Fw W H H'->WkC W B H' J l->Q J H')->wi σ H Q
def VIc(X:Cx)(tg iter:Cr)(F:TVa):Prop:=∃wi,PI X tg iter wi/\aSh wi F
def vic{X:Cx}{tg iter:Cr}{F:TVa}(h:VI X tg iter F):VIc X tg iter F:=let⟨wi,p,f⟩:=h;#[wi,p,λe h q=>f e h λl J H' h1 w k=>q l J H' h1 w #[λt _=>k.stop t,λi t _ hi=>k.go i t hi,λi _ _ _ e t _ h y=>k.yld i e t h y]]
def aBo(no:Nat)(cap:#v[12])(Fi:TVa)(G:TVg)(F:TV):TV:=λρ R=>Fi ρ λl=>l.length<=10000/\jA (bBs G F (uA no cap ρ)) l [] λus=>R (.ow us)
def aJ2(no:Nat)(cap:#v[12])(Fi:TVa)(G:TVg)(C:TVc)(F:TV):TV:=λρ R=>Fi ρ λl=>l.length<=10000/\jA (aYs G C F (uA no cap ρ)) l [] λus=>R (.ow us)
def CW(W B:Addr->Prop)(H1:Hp)(D:Addr)(ρ:EV)(l:List U)(f:U->(Option U->Prop)->Prop)(R:List U->Prop)(i m:Nat)(σ:St)(H:Hp):Prop:=m=l.length-i/\i<=l.length/\∃us af,CI W B H1 D ρ us af σ H/\us.length<=i/\jA f (l.drop i) us R
def CW.beg{W B:Addr->Prop}{H1:Hp}{D:Addr}{ρ:EV}{σ:St}{no:Nat}{cap:#v[12]}{l:List U}{f:U->(Option U->Prop)->Prop}{R:List U->Prop}(e:EE W B H1 ρ σ)(n1:H1 D=none)(h:jA f l [] R):CW W B H1 D (uA no cap ρ) l f R 0 l.length (oA no cap σ) (upd H1 D (.lst [])):=by
 refine#[by simp,Bp _,[],[],#[e.cap.plus n1,λi m w h hs=>?_,e.eb.new n1,aP,rfl],Ak _,h];obtain⟨p,S,h1,h2,h3⟩:=e.cap.hd i m w h hs;have f:=e.eb.new (o:=.lst []) n1;refine#[p,S,h1,h2,λz=>?_,w.mono (λb o nb h=>#[λz=>z.elim nb (aR h n1),(e.eb.keep f b o nb h).2]) (λb hb=>let⟨x,hx,_⟩:=w.th h3 b hb;aN (aR hx n1)) h3];obtain⟨x,hx,_⟩:=w.th h3 D z;rw[n1]at hx;cases hx
def CW.turn{W B:Addr->Prop}{H1 H H3:Hp}{D:Addr}{ρ:EV}{σ σ0:St}{no:Nat}{cap:#v[12]}{l:List U}{f:U->(Option U->Prop)->Prop}{R:List U->Prop}{i m:Nat}{J:It}{x:V}(e:EE W B H1 ρ σ0)(n1:H1 D=none)(ll:l.length<=10000)(wk:WkC W B H1 J l)(hlt:i<l.length)(c:CW W B H1 D (uA no cap ρ) l f R i m σ H)(y:J.yld i H x H3):
  ∃u us,EE W (λb=>B b∨b=D) H3 (uA no cap ρ) σ/\DU W (λb=>B b∨b=D) H3 u x/\f u (λo=>match o with|some y=>jA f (l.drop (i+1)) (us++[y]) R|none=>jA f (l.drop (i+1)) us R)/\
   (∀(y:U)(v:V)(σ':St)(H':Hp),jA f (l.drop (i+1)) (us++[y]) R->Fw W H3 H'->DU W (λb=>B b∨b=D) H' y v->σ'.length=σ.length->(∀i,no<=i->σ'[i]? =σ[i]?)->∃ys,H' D=some (.lst ys)/\ys.length<sizeLine/\∃m',m'<m/\CW W B H1 D (uA no cap ρ) l f R (i+1) m' σ' (upd H' D (.lst (ys++[v]))))/\
   (∀(σ':St)(H':Hp),jA f (l.drop (i+1)) us R->Fw W H3 H'->σ'.length=σ.length->(∀i,no<=i->σ'[i]? =σ[i]?)->∃m',m'<m/\CW W B H1 D (uA no cap ρ) l f R (i+1) m' σ' H'):=by
 have nw:¬W D:=λw=>e.eb.dm D (e.eb.wb D w) n1;obtain⟨rfl,hi,us,af,c,hl,h2⟩:=c;rw[Ha hlt]at h2;have tr:Tr B H1 (λb=>B b∨b=D) H:=λb o nb h=>#[λz=>z.elim nb (aR h n1),(e.eb.keep c.fw b o nb h).2];obtain⟨w3,d⟩:=wk.yld i c.ee.eb tr c.fw (Ag hlt) y;have c3:=c.to (σ':=σ) nw w3 (λ_ _ _ _=>rfl) rfl;have hz:(10000:Nat)<sizeLine:=by decide
 refine#[l[i],us,c3.ee,d,h2,λy v σ' H' h3 f3 d3 l3 a3=>?_,λσ' H' h3 f3 l3 a3=>#[l.length-(i+1),∅,rfl,hlt,us,af,c3.to nw f3 (aN9 a3) l3,∅,h3]];have c4:=c3.to nw f3 (aN9 a3) l3;have hz2:=c4.du.length;refine#[af,c4.dl,∅,l.length-(i+1),∅,rfl,hlt,us++[y],af++[v],c4.put n1 nw d3,?_,h3];rw[Am];show us.length+1<=i+1
 lia
def CW.end_{W B:Addr->Prop}{H0 H1 H:Hp}{D:Addr}{ρ:EV}{σ:St}{l:List U}{f:U->(Option U->Prop)->Prop}{R:Sl->Prop}{Q:VK}{m:Nat}(w:Fw W H0 H1)(n1:H1 D=none)(c:CW W B H1 D ρ l f (λus=>R (.ow us)) l.length m σ H)(q:∀s v H',R s->Fw W H0 H'->RO W B H0 H' s v->Q v H'):Q (.ref D) H:=by
 obtain⟨_,_,us,af,c,_,h2⟩:=c;rw[Pu]at h2;exact q _ _ _ h2 (w.trans c.fw) (RO.back (s:=.ow us) w #[D,af,rfl,n1,c.dl,c.du])
def wQ{no:Nat}{cap:#v[12]}{Fi:TVa}{G:TVg}{F:TV}(hi:aSh wi Fi)(hg:VTh no g G):VT (wK no cap wi g (tV F)) (aBo no cap Fi G F):=λ{W B ρ σ H R Q} e h q=>hi e h λl J H1 h1 w wk D n1=>by
 have e1:=e.to w;refine#[CW W B H1 D (uA no cap ρ) l _ _,#[_,CW.beg e1 n1 h1.2],λi m σ2 H2 c=>?_];have tr:Tr B H1 (λb=>B b∨b=D) H2:=let⟨_,_,_,_,c,_⟩:=c;λb o nb h=>#[λz=>z.elim nb (aR h n1),(e1.eb.keep c.fw b o nb h).2];have fw:Fw W H1 H2:=let⟨_,_,_,_,c,_⟩:=c;c.fw;by_cases hlt:i<l.length
 ·refine .inr #[wk.go i tr fw hlt,λx H3 y=>?_];obtain⟨u,us,e3,d3,h3,put,_⟩:=c.turn e1 n1 h1.1 wk hlt y;refine hg e3 d3 h3 λρ' σ' e' l' a' h'=>#[W,_,ρ',_,e',h',λs v H5 h5 w5 r5=>?_];obtain⟨y,hy,dy⟩:=r5.du e'.eb h5;exact put y v σ' H5 hy w5 dy l' a'
 ·have hi':=c.2.1;obtain rfl:i=l.length:=by lia
  exact .inl #[wk.stop tr fw,c.end_ w n1 q]
def aHu{no:Nat}{cap:#v[12]}{Fi:TVa}{G:TVg}{C:TVc}{F:TV}(hi:aSh wi Fi)(hg:VTh no g G):VT (vI no cap wi g (tVc C) (tV F)) (aJ2 no cap Fi G C F):=λ{W B ρ σ H R Q} e h q=>hi e h λl J H1 h1 w wk D n1=>by
 have e1:=e.to w;refine#[CW W B H1 D (uA no cap ρ) l _ _,#[_,CW.beg e1 n1 h1.2],λi m σ2 H2 c=>?_];have tr:Tr B H1 (λb=>B b∨b=D) H2:=let⟨_,_,_,_,c,_⟩:=c;λb o nb h=>#[λz=>z.elim nb (aR h n1),(e1.eb.keep c.fw b o nb h).2];have fw:Fw W H1 H2:=let⟨_,_,_,_,c,_⟩:=c;c.fw;by_cases hlt:i<l.length
 ·refine .inr #[wk.go i tr fw hlt,λx H3 y=>?_];obtain⟨u,us,e3,d3,h3,put,skip⟩:=c.turn e1 n1 h1.1 wk hlt y;refine hg e3 d3 h3 λρ' σ' e' l' a' h'=>#[W,_,ρ',_,e',h',λc H4 h4 w4=>?_];cases c with
  |true=>
   refine aGj #[W,_,ρ',_,e'.to w4,h4.1 rfl,λs v H5 h5 w5 r5=>?_];obtain⟨y,hy,dy⟩:=r5.du (e'.to w4).eb h5;exact put y v σ' H5 hy (w4.trans w5) dy l' a'
  |false=>exact rQ (skip σ' H4 (h4.2 rfl) w4 l' a')
 ·have hi':=c.2.1;obtain rfl:i=l.length:=by lia
  exact .inl #[wk.stop tr fw,c.end_ w n1 q]
def dU{elt iter tg:Cr}{own:List Str}{cap:#v[12]}{Fi:TVa}{G:TVg}{F:TV}(sc0:Scope)(N0:List Str)(hsc:X.env.scope=sc0)(hN:X.N=N0)(hcell:HC X)
  (ok:oU scope sc0 cap N0) (hc:X.calm=true) (hi:VIc X tg iter Fi) (hg:∀cl C s2 H2 fp,PG #v[2] tg g) (hG:VTh own.length g G) (he:∀cl C s2 H2 fp,VE #v[2] elt F)
  (hs:FS X iter:=by intro _;rfl):VE X #v[8] (aBo own.length cap Fi G F):=
 let⟨_,p,f⟩:=hi;#[_,bAv sc0 N0 hsc hN hcell ok hc p hg (λcl C s2 H2 fp=>(he cl C s2 H2 fp).can) hs,wQ f hG]
def aE5{elt iter tg ci:Cr}{own:List Str}{cap:#v[12]}{Fi:TVa}{G:TVg}{C:TVc}{F:TV}(sc0:Scope)(N0:List Str)(hsc:X.env.scope=sc0)(hN:X.N=N0)(hcell:HC X)
  (ok:oU scope sc0 cap N0) (hc:X.calm=true) (hi:VIc X tg iter Fi) (hg:∀cl C s2 H2 fp,PG #v[2] tg g) (hG:VTh own.length g G) (hC:∀cl C' s2 H2 fp,VC (bD X (cH own cap) scope cl C' s2 H2 fp) ci C) (he:∀cl C s2 H2 fp,VE #v[2] elt F)
  (hs:FS X iter:=by intro _;rfl):VE X #v[9] (aJ2 own.length cap Fi G C F):=
 let⟨_,p,f⟩:=hi;#[_,aXq sc0 N0 hsc hN hcell ok hc p hg (λcl C s2 H2 fp=>(hC cl C s2 H2 fp).can) (λcl C s2 H2 fp=>(he cl C s2 H2 fp).can) hs,aHu f hG]
def aR8{x:Str}{elt iter tg:Cr}{own:List Str}{cap:#v[12]}{pos spos py:Pos}{Fi:TVa}{G:TVg}{F:TV}(hnd:X.N.Nodup)(sc0:Scope)(N0:List Str)(hsc:X.env.scope=sc0)(hN:X.N=N0)(hcell:HC X)
  (ok:oU scope sc0 cap N0) (hc:X.calm=true) (hi:VIc X tg iter Fi) (hg:∀cl C s2 H2 fp,PG #v[2] tg g) (hG:VTh own.length g G) (he:∀cl C s2 H2 fp,VE #v[2] elt F)
  (hi':X.N[i]? =some x:=by rfl) (hx:Loc X.env.scope x:=by exact Dl rfl) (hsw:#v[p]:=by rfl)
  (hs:FS X iter:=by intro _;rfl) (hf:FL X x:=by trivial):VS X (.Assign [.Name x py] #v[8] spos) (aRv i (aBo own.length cap Fi G F)):=
 let⟨_,p,f⟩:=hi;#[_,aV8 hnd hi' hx sc0 N0 hsc hN hcell ok hc p hg (λcl C s2 H2 fp=>(he cl C s2 H2 fp).can) hsw hs hf,λo h j=>wQ f hG o.ee h λs v H1 h1 w r=>aBc o w r h1 j.nx]
def aZd{x:Str}{elt iter tg ci:Cr}{own:List Str}{cap:#v[12]}{pos spos py:Pos}{Fi:TVa}{G:TVg}{C:TVc}{F:TV}(hnd:X.N.Nodup)(sc0:Scope)(N0:List Str)(hsc:X.env.scope=sc0)(hN:X.N=N0)(hcell:HC X)
  (ok:oU scope sc0 cap N0) (hc:X.calm=true) (hi:VIc X tg iter Fi) (hg:∀cl C s2 H2 fp,PG #v[2] tg g) (hG:VTh own.length g G) (hC:∀cl C' s2 H2 fp,VC (bD X (cH own cap) scope cl C' s2 H2 fp) ci C) (he:∀cl C s2 H2 fp,VE #v[2] elt F)
  (hi':X.N[i]? =some x:=by rfl) (hx:Loc X.env.scope x:=by exact Dl rfl) (hsw:Fe #v[9] (some (.Name x py)) spos.line X.env=pure true:=by rfl)
  (hs:FS X iter:=by intro _;rfl) (hf:FL X x:=by trivial):VS X (.Assign [.Name x py] #v[9] spos) (aRv i (aJ2 own.length cap Fi G C F)):=
 let⟨_,p,f⟩:=hi;#[_,aX1 hnd hi' hx sc0 N0 hsc hN hcell ok hc p hg (λcl C s2 H2 fp=>(hC cl C s2 H2 fp).can) (λcl C s2 H2 fp=>(he cl C s2 H2 fp).can) hsw hs hf,λo h j=>aHu f hG o.ee h λs v H1 h1 w r=>aBc o w r h1 j.nx]
def lZ{a:Cr}{op}{F:TV}(h:VE X a F):VE X (.BoolOp op [a] pos) F:=let⟨_,p,f⟩:=h;#[_,aXv p,f]
def aJ0(g:#v[q])(G:TVa):TV:=λρ R=>G ρ λus=>g us R
def aO{id:String}{g:#v[q]}{x:Str}{a:Cr}{es:List Cr}{G:TVa}{p pos:Pos}(hc:dR X (.builtin id) r)(cb:CB r g)(hm:X.mg x=none)(hv:Fg x=some (.builtin id))(ha:VB X (a::es) G)(hg:Gl X x:=by rfl)(hn:x≠"__name__":=by decide)(hdb:ND x:=by decide)
  (he:SE X a es:=by rfl) (hpl:BT X pos es:=by rfl):VE X (.Call (.Name x p) (a::es) [] pos) (aJ0 g G):=
 let⟨_,p,f⟩:=ha;#[_,iI hc hg hm hv p hn hdb he hpl,λe h q=>f e h λus vs H1 h1 w d=>cb (e.to w).eb d h1 λs z H2 h2 w2 r=>q _ _ _ h2 (w.trans w2) (r.back w)]
def dD{T:String}{g:#v[q]}{x:Str}{a:Cr}{es:List Cr}{G:TVa}{p pos:Pos}(hc:dR X (.type T) r)(cb:CB r g)(hm:X.mg x=none)(hv:Fg x=some (.type T))(ha:VB X (a::es) G)(hg:Gl X x:=by rfl)(hn:x≠"__name__":=by decide)(hdb:ND x:=by decide)
  (he:SE X a es:=by rfl) (hpl:BT X pos es:=by rfl):VE X (.Call (.Name x p) (a::es) [] pos) (aJ0 g G):=
 let⟨_,p,f⟩:=ha;#[_,gJ hc hg hm hv p hn hdb he hpl,λe h q=>f e h λus vs H1 h1 w d=>cb (e.to w).eb d h1 λs z H2 h2 w2 r=>q _ _ _ h2 (w.trans w2) (r.back w)]
def gIx:U->U->(Sl->Prop)->Prop
 |.ls l,.v (.int i),R=>∃u,atI l i=some u/\R (.sh u)
 |.tp l,.v (.int i),R=>∃u,atI l i=some u/\R (.sh u)
 |_,_,_=>False
def bH{K:Ad}:O2 (rIx K) gIx:=λ{W B H u v x y R Q} e d1 d2 h q=>by
 unfold gIx at h;split at h
 ·exact .inl (aXg e d1 d2 h q)
 ·exact .inr (.inl (aXh e d1 d2 h q))
 ·exact h.elim
def aZ6:U->U->(Sl->Prop)->Prop
 |.v (.int i),.v (.int j),R=>R (.sh (.n (i+j)))
 |.v (.str a),.v (.str b),R=>a.length+b.length<=10000/\R (.sh (.s (a++b)))
 |.ls l,.ls m,R=>l.length+m.length<=10000/\R (.ow (l++m))
 |.tp l,.tp m,R=>l.length+m.length<=10000/\R (.sh (.tp (l++m)))
 |_,_,_=>False
def sz4(h:n<=10000):n<=sizeLine:=Dd h ⋯
def aV9(X:Cx):R2:=λx y H Q=>(∃i j,x=.int i/\y=.int j/\Q (.int (i+j)) H)∨(∃i j,x=.str i/\y=.str j/\i.length+j.length<=sizeLine/\Q (.str (i++j)) H)∨bA0 x y H Q∨aWa X.K x y H Q∨∃a b ys,x=.ref a/\y=.ref b/\SqT X.K H a []/\SqT X.K H b ys/\Q (.ref b) H
def dG:OpR X (Jk .Add) (aV9 X):=xP.or (aJd.or (aXk.or (aTm.or aQf)))
def fB:O2 (aV9 X) aZ6:=λ{W B H u v x y R Q} e d1 d2 h q=>by
 unfold aZ6 at h;split at h
 ·exact .inl #[_,_,d1.int,d2.int,q _ _ _ h e.refl #[rfl,rfl]]
 ·exact .inr (.inl #[_,_,d1.fl.1,d2.fl.1,sz4 h.1,q _ _ _ h.2 e.refl #[rfl,rfl]])
 ·obtain⟨p,xs,rfl,_,h1,ds⟩:=d1.ls e;obtain⟨p',ys,rfl,_,h2,ds'⟩:=d2.ls e;have:=ds.length;have:=ds'.length;refine .inr (.inr (.inl #[p,p',xs,ys,rfl,rfl,h1,h2,sz4 ∅,λr n=>?_]));have f:=e.new (o:=.lst (xs++ys)) n;exact q _ _ _ h.2 f #[r,_,rfl,n,aP,DUs.mono (λb o nb h=>#[λz=>z.elim nb (aR h n),(e.keep f b o nb h).2]) _ (ds.app ds')]
 ·rename_i l m;obtain⟨p,xs,rfl,_,h1,ds⟩:=d1.tp;obtain⟨p',ys,rfl,nb,h2,ds'⟩:=d2.tp;have:=ds.length;have:=ds'.length;cases l with
  |nil=>
   rw[show xs=[]from ds]at h1;exact .inr (.inr (.inr (.inr #[p,p',ys,rfl,rfl,SqT.of h1,SqT.of h2,q (.sh (.tp m)) _ _ h.2 e.refl #[p',ys,rfl,nb,h2,ds']])))
  |cons a l=>
   refine .inr (.inr (.inr (.inl #[p,p',xs,ys,rfl,rfl,SqT.of h1,SqT.of h2,?_,sz4 ∅,λz=>?_,λ_ r n=>?_])))
   ·intro z;rw[z]at ds;obtain⟨_,_,e1,_⟩:=ds;cases e1
   ·subst z;have hm:m=[]:=Dp.mp (by simpa using this);subst hm;exact q _ _ _ h.2 e.refl #[p,xs,rfl,by assumption,h1,by rw[Bk];exact ds]
   ·have f:=e.new (o:=.tup (xs++ys)) n;exact q _ _ _ h.2 f #[r,_,rfl,e.nw n,aP,DUs.mono (e.keep f) _ (ds.app ds')]
 ·exact h.elim
def aJ1(g g':U->U->(Sl->Prop)->Prop)(a b c:TV):TV:=λρ R=>a ρ λs=>b ρ λs'=>g s.rd s'.rd λr=>match r.rd with
 |.v (.bl k)=>(k=true->c ρ λs''=>g' s'.rd s''.rd R)/\(k=false->R (.sh (.b false)))
 |_=>False
def aHt{r r':R2}{g g':U->U->(Sl->Prop)->Prop}{ta tb tc:TE}{F G E:TV}(o:O2 r g)(o':O2 r' g')(ha:VT ta F)(hb:VT tb G)(hc:VT tc E):VT (aJv r r' ta tb tc) (aJ1 g g' F G E):=λe h q=>by
 refine ha e h λs v H1 h1 f1 r1=>?_;have e1:=e.to f1;refine hb e1 h1 λs' v' H2 h2 f2 r2=>?_;have e2:=e1.to f2;have db2:=r2.db e1.eb;refine o e2.eb ((r1.db e.eb).to e1.eb f2) db2 h2 λs3 z H3 h3 f3 r3=>?_;have d:=r3.db e2.eb;revert h3 d;generalize s3.rd=u;intro h3 d;split at h3
 ·rename_i k;refine#[k,d.fl.1,?_];have e3:=e2.to f3;cases k with
  |true=>
   refine aGj (hc e3 (h3.1 rfl) λs4 v4 H4 h4 f4 r4=>?_);refine o' (e3.to f4).eb ((db2.to e2.eb f3).to e3.eb f4) (r4.db e3.eb) h4 λs5 v5 H5 h5 f5 r5=>?_;have ff:=((f1.trans f2).trans f3).trans f4;exact q _ _ _ h5 (ff.trans f5) (r5.back ff)
  |false=>exact rQ (q _ _ _ (h3.2 rfl) ((f1.trans f2).trans f3) #[rfl,rfl])
 ·exact h3.elim
def aRy{op op':Uu}{r r':R2}{g g':U->U->(Sl->Prop)->Prop}{a b c:Cr}{F G E:TV}(ho:OpR X (Ff op) r)(ho':OpR X (Ff op') r')(o:O2 r g)(o':O2 r' g')(ha:VE X a F)(hb:VE X b G)(hc:VE X c E)(hm:Wv [op,op'] [b,c]=false:=by with_unfolding_all rfl):VE X (.Compare a [op,op'] [b,c] pos) (aJ1 g g' F G E):=
 let⟨_,p,f⟩:=ha;let⟨_,p1,f1⟩:=hb;let⟨_,p2,f2⟩:=hc;#[_,aQk ho ho' p p1 p2 hm,aHt o o' f f1 f2]
def aHp{op op':Uu}{r r':R2}{g g':U->U->(Sl->Prop)->Prop}{a b c:Cr}{F G E:TV}(ho:OpR X (Ff op) r)(ho':OpR X (Ff op') r')(o:O2 r g)(o':O2 r' g')(ha:VE X a F)(hb:VE X b G)(hc:VE X c E)(hm:Wv [op,op'] [b,c]=false:=by with_unfolding_all rfl):VC X (.Compare a [op,op'] [b,c] pos) (nU (aJ1 g g' F G E)):=
 let⟨_,p,f⟩:=ha;let⟨_,p1,f1⟩:=hb;let⟨_,p2,f2⟩:=hc;#[_,aQw ho ho' p p1 p2 hm,aAc (aHt o o' f f1 f2)]
def vUn(g:Int->Int)(a:TV):TV:=λρ R=>a ρ λs=>match s.rd with
 |.v (.int i)=>R (.sh (.n (g i)))
 |_=>False
def aR3{a:Cr}{F:TV}(ha:VE X a F):VE X (.UnaryOp .USub a pos) (vUn (λi=> -i) F):=let⟨_,p,f⟩:=ha;⟨_,bAx aYp p,λe h q=>f e h λs v H1 h1 f1 r=>by
 have d:=r.db e.eb;revert h1 d;generalize s.rd=u;intro h1 d;split at h1
 ·exact#[_,d.int,q _ _ _ h1 f1 #[rfl,rfl]]
 ·exact h1.elim⟩
def DBs.one{W B:Addr->Prop}{H:Hp}(h:DBs W B H [u] vs):∃x,vs=[x]/\DB W B H u x:=by
 obtain⟨x,r,e,d,t⟩:=h;obtain rfl:r=[]:=t;exact#[x,e,d]
def DBs.two{W B:Addr->Prop}{H:Hp}{u v:U}(h:DBs W B H [u,v] vs):∃x y,vs=[x,y]/\DB W B H u x/\DB W B H v y:=by
 obtain⟨x,r,e,d,y,r',rfl,d',t⟩:=h;obtain rfl:r'=[]:=t;exact#[x,y,e,d,d']
def aW1:List U->(Sl->Prop)->Prop
 | [.ls l],R=>R (.sh (.n l.length))
 | [.tp l],R=>R (.sh (.n l.length))
 |_,_=>False
def bF{K:Ad}:CB (λxs H Q=>∃p ys,xs=[.ref p]/\(SqL K H p ys∨SqT K H p ys)/\Q (.int ys.length) H) aW1:=λ{W B H us vs R Q} e d h q=>by
 unfold aW1 at h;split at h
 ·obtain⟨x,rfl,dd⟩:=DBs.one d;obtain⟨p,xs,rfl,_,hp,ds⟩:=dd.ls e;exact#[p,xs,rfl,.inl (SqL.of hp),by rw[<-ds.length];exact q _ _ _ h e.refl #[rfl,rfl]]
 ·obtain⟨x,rfl,dd⟩:=DBs.one d;obtain⟨p,xs,rfl,_,hp,ds⟩:=dd.tp;exact#[p,xs,rfl,.inr (SqT.of hp),by rw[<-ds.length];exact q _ _ _ h e.refl #[rfl,rfl]]
 ·exact h.elim
def DUs.bls{W B:Addr->Prop}{H:Hp}:∀{bs:List Bool}{xs:List V},DUs W B H (bs.map U.b) xs->xs=bs.map V.bl
 | [],_,h=>h
 |_::_,_,⟨x,r,e,d,t⟩=>by rw[e,d.1,DUs.bls t];rfl
def DUs.ints{W B:Addr->Prop}{H:Hp}:∀{ns:List Int}{xs:List V},DUs W B H #v[x] xs->xs=ns.map V.int
 | [],_,h=>h
 |_::_,_,⟨x,r,e,d,t⟩=>by rw[e,d.1,DUs.ints t];rfl
inductive aU3(f:List Bool->Bool)(us:List U)(R:(Sl->Prop)):Prop
 |mk (bs:List Bool) (q0_:us=[.ls (bs.map U.b)]) (q1_:R (.sh (.b (f bs)))):aU3 f us R
def bCm(f:List Bool->Bool):List U->(Sl->Prop)->Prop:=λus R=>aU3 f us R
def qP{X:Cx}{f:List Bool->Bool}(hc:X.calm=true):CB (λxs H Q=>∃(p:Addr)(bs:List Bool),xs=[.ref p]/\SqL X.K H p (bs.map V.bl)/\X.calm=true/\Q (.bl (f bs)) H) (bCm f):=λ{W B H us vs R Q} e d ⟨bs,eu,h⟩ q=>by
 subst eu;obtain⟨x,rfl,dd⟩:=DBs.one d;obtain⟨p,xs,rfl,_,hp,ds⟩:=dd.ls e;rw[ds.bls]at hp;exact#[p,bs,rfl,SqL.of hp,hc,q _ _ _ h e.refl #[rfl,rfl]]
def aZ7:List U->(Sl->Prop)->Prop
 | [.v (.int i)],R=>R (.sh (.n i))
 | [.v (.bl k)],R=>R (.sh (.n (if k then 1 else 0)))
 |_,_=>False
def aAp:CB (λxs H Q=>(∃i,xs=[.int i]/\Q (.int i) H)∨∃k,xs=[.bl k]/\Q (.int (if k then 1 else 0)) H) aZ7:=λ{W B H us vs R Q} e d h q=>by
 unfold aZ7 at h;split at h
 ·obtain⟨x,rfl,dd⟩:=DBs.one d;exact .inl #[_,by rw[dd.int],q _ _ _ h e.refl #[rfl,rfl]]
 ·obtain⟨x,rfl,dd⟩:=DBs.one d;exact .inr #[_,by rw[dd.fl.1],q _ _ _ h e.refl #[rfl,rfl]]
 ·exact h.elim
def aV2:List U->(Sl->Prop)->Prop
 | [.ls l],R=>R (.ow l)
 | [.tp l],R=>R (.ow l)
 |_,_=>False
def kZ{K:Ad}:CB (aQy K) aV2:=λ{W B H us vs R Q} e d h q=>by
 have fin:∀{l ys}(ds:DUs W B H l ys)(h:R (.ow l)) r,H r=none->Q (.ref r) (upd H r (.lst ys)):=λ{l ys} ds h r n=>by
  have f:=e.new (o:=.lst ys) n;exact q _ _ _ h f #[r,_,rfl,n,aP,DUs.mono (λb o nb h=>#[λz=>z.elim nb (aR h n),(e.keep f b o nb h).2]) _ ds]
 unfold aV2 at h;split at h
 ·obtain⟨x,rfl,dd⟩:=DBs.one d;obtain⟨p,xs,rfl,_,hp,ds⟩:=dd.ls e;exact#[p,xs,rfl,.inl (SqL.of hp),fin ds h]
 ·obtain⟨x,rfl,dd⟩:=DBs.one d;obtain⟨p,xs,rfl,_,hp,ds⟩:=dd.tp;exact#[p,xs,rfl,.inr (SqT.of hp),fin ds h]
 ·exact h.elim
def aO5:List U->(Sl->Prop)->Prop
 | [.ls l],R=>R (.sh (.tp l))
 | [.tp l],R=>R (.sh (.tp l))
 |_,_=>False
def aOa{K:Ad}:CB (aK8 K) aO5:=λ{W B H us vs R Q} e d h q=>by
 unfold aO5 at h;split at h
 ·obtain⟨x,rfl,dd⟩:=DBs.one d;obtain⟨p,xs,rfl,_,hp,ds⟩:=dd.ls e;refine#[p,xs,rfl,.inl #[SqL.of hp,λr n=>?_]];have f:=e.new (o:=.tup xs) n;exact q _ _ _ h f #[r,_,rfl,e.nw n,aP,DUs.mono (e.keep f) _ ds]
 ·obtain⟨x,rfl,dd⟩:=DBs.one d;obtain⟨p,xs,rfl,nb,hp,ds⟩:=dd.tp;exact#[p,xs,rfl,.inr #[SqT.of hp,q _ _ _ h e.refl #[p,xs,rfl,nb,hp,ds]]]
 ·exact h.elim
def dB{x:Str}{i:Int}{t:Tok}(hm:X.mg x=some (.int i t))(hg:Gl X x:=by rfl)(hd:ND x:=by decide):VE X (.Name x pos) (vC (.n i)):=#[_,aTv (v:=.int i) hg hm #[_,rfl] hd,aSc rfl]
def jT{st:Stmt}:VS X st (λ_ _=>False):=#[_,fZ,λ_ h _=>h]
def bCc{e:Cr}{F:TV}(he:VE X e F)(hs:Fe e none pos.line X.env=pure false:=by rfl):VS X (.Expr e pos) (vDo F):=let⟨_,p,f⟩:=he;#[_,qR p hs,λo h j=>f o.ee h λs v H1 h1 w r=>j.nx (o.to w) h1]
def aUn(neg:Bool)(F:TV):TV:=λρ R=>F ρ λs=>match s.rd with
 |.v x=>R (.sh (.b (if neg then !decide (x=.non)else decide (x=.non))))
 |.op _=>False
 |_=>R (.sh (.b neg))
def DB.non{W B:Addr->Prop}{H:Hp}(e:EB W B H)(d:DB W B H u y)(h1:∀x,u≠.v x)(h2:∀o,u≠.op o):y≠.non:=by
 intro z;subst z;cases u with
 |v x=>exact h1 x rfl
 |op o=>exact h2 o rfl
 |tp l=>obtain⟨_,_,q,_⟩:=d.tp;cases q
 |ls l=>obtain⟨_,_,q,_⟩:=d.ls e;cases q
 |ob C ns us=>obtain⟨_,_,_,q,_⟩:=d.ob;cases q
 |dk ns us=>obtain⟨_,_,q,_⟩:=d.dk;cases q
 |wl=>
  rcases d with ⟨_,q,_⟩|⟨_,_,_,q,_⟩<;>cases q
def aZe{F:TV}(f:VT t F):VT (bBh t) (aUn false F):=λe h q=>f e h λs v H1 h1 w r=>by
 have d:=r.db e.eb;revert h1 d;generalize s.rd=u;intro h1 d;split at h1
 ·rw[d.fl.1];exact q _ _ _ h1 w #[rfl,rfl]
 ·exact h1.elim
 ·rename_i n1 n2;rw[Ab6 (d.non (e.to w).eb n1 n2)];exact q _ _ _ h1 w #[rfl,rfl]
def aUw{F:TV}(f:VT t F):VT (aWf t) (aUn true F):=λe h q=>f e h λs v H1 h1 w r=>by
 have d:=r.db e.eb;revert h1 d;generalize s.rd=u;intro h1 d;split at h1
 ·rw[d.fl.1];exact q _ _ _ h1 w #[rfl,rfl]
 ·exact h1.elim
 ·rename_i n1 n2;rw[Ab6 (d.non (e.to w).eb n1 n2)];exact q _ _ _ h1 w #[rfl,rfl]
def aWi{F:TV}(h:VT t F):VTc (tB t) (nU F):=aAc h
def aY2{a:Cr}{j pos pos'}{F:TV}(ha:VE X a F):VC X (.Compare a [.Is] [.Constant .none j pos'] pos) (nU (aUn false F)):=let⟨_,p,f⟩:=ha;#[_,aJl (aXn p),aWi (aZe f)]
def aAa{a:Cr}{j pos pos'}{F:TV}(ha:VE X a F):VC X (.Compare a [.IsNot] [.Constant .none j pos'] pos) (nU (aUn true F)):=let⟨_,p,f⟩:=ha;#[_,aJl (aTp p),aWi (aUw f)]
inductive Tg where
 |non|bl|int|str|tp|ls|dk
def tyU:U->Option Tg
 |.v .non=>some .non
 |.v (.bl _)=>some .bl
 |.v (.int _)=>some .int
 |.v (.str _)=>some .str
 |.tp _=>some .tp
 |.ls _=>some .ls
 |.dk _ _=>some .dk
 |_=>none
def Tg.nm:Tg->String
 |.non=>"NoneType"|.bl=>"bool"|.int=>"int"|.str=>"str"|.tp=>"tuple"|.ls=>"list"|.dk=>"dict"
def isT:Tg->Tg->Bool
 |.non,.non=>true
 |.bl,.bl=>true
 |.bl,.int=>true
 |.int,.int=>true
 |.str,.str=>true
 |.tp,.tp=>true
 |.ls,.ls=>true
 |.dk,.dk=>true
 |_,_=>false
def bBn{W B:Addr->Prop}{H:Hp}{u:U}{t:Tg}{K:Ad}(e:EB W B H)(d:DB W B H u y)(h:tyU u=some t):vO K H y (.type t.nm):=by
 unfold tyU at h;split at h<;>cases h
 ·rw[d.fl.1];exact .non
 ·rw[d.fl.1];exact .bl _
 ·rw[d.fl.1];exact .int _
 ·rw[d.fl.1];exact .str _
 ·obtain⟨p,xs,rfl,_,h,_⟩:=d.tp;exact .tup h
 ·obtain⟨p,xs,rfl,_,h,_⟩:=d.ls e;exact .lst h
 ·obtain⟨p,xs,rfl,_,h,_⟩:=d.dk;exact .dK h
def aXc{K:Ad}{t n:Tg}(hn:n≠.non):Qf K (.type t.nm) (.type n.nm)=some (isT t n):=by
 cases t<;>cases n<;>first|rfl|exact(hn rfl).elim
def bDi(n:Tg)(F:TV):TV:=λρ R=>F ρ λs=>∃t,tyU s.rd=some t/\R (.sh (.b (isT t n)))
def iU{x:Str}{a:Cr}{F:TV}{p p' pos:Pos}(n:Tg)(hn:n≠.non)(hm:X.mg "isinstance"=none)(hm2:X.mg x=none)(hv:Fg x=some (.type n.nm))(ha:VE X a F)(hg:Gl X "isinstance":=by rfl)(hg2:Gl X x:=by rfl)(h1:x≠"__name__":=by decide)(h2:ND x:=by decide)
  (hs:Ca [a,.Name x p'] X.env=(false,eval a X.env)::Ca [.Name x p'] X.env:=by rfl) (hs2:Ca [.Name x p'] X.env=(false,eval (.Name x p') X.env)::Ca [] X.env:=by rfl) (hpl:BT X pos [.Name x p']:=by rfl):
  VE X (.Call (.Name "isinstance" p) [a,.Name x p'] [] pos) (bDi n F):=
 let⟨_,q,f⟩:=ha;⟨_,iI aFw hg hm Abp (bZ q (bZ (aK1 (v:=.ty n.nm) hg2 hm2 hv rfl h1 h2) dN hs2) hs) ⋯ ⋯ hs hpl,λe h q=>f e h λs v H1 ⟨t,ht,h1⟩ w r=>
  #[_,_,_,_,rfl,bBn (K:=X.K) (e.to w).eb (r.db e.eb) ht,aXc hn,q _ _ _ h1 w #[rfl,rfl]]⟩
def gIn(neg:Bool):U->U->(Sl->Prop)->Prop
 |u,.ls l,R=>u.dt 40/\U.dts 40 l/\R (.sh (.b (if neg then !(l.any λe=>e.eq u)else l.any λe=>e.eq u)))
 |u,.tp l,R=>u.dt 40/\U.dts 40 l/\R (.sh (.b (if neg then !(l.any λe=>e.eq u)else l.any λe=>e.eq u)))
 |_,_,_=>False
theorem aIn(u:U):∀l:List U,((U.ds l).any λe=>e.eq u.d)=l.any λe=>e.eq u
 | []=>rfl
 |a::l=>by rw[U.ds,Ju,Ju,aIn u l];rfl
def aPp{K:Ad}{neg:Bool}:O2 (aX9 K neg) (gIn neg):=λ{W B H u v x y R Q} e d1 d2 h q=>by
 unfold gIn at h;split at h
 ·obtain⟨t1,t2,h⟩:=h;obtain⟨p,xs,rfl,_,hp,ds⟩:=d2.ls e;have h1:=U.dep 40 u t1;have h2:=U.deps 40 _ t2;exact#[u.d,p,xs,_,d1.den t1,rfl,.inl (SqL.of hp),DUs.dens 40 _ t2 ds,∅,by rw[aIn];exact q _ _ _ h e.refl #[rfl,rfl]]
 ·obtain⟨t1,t2,h⟩:=h;obtain⟨p,xs,rfl,_,hp,ds⟩:=d2.tp;have h1:=U.dep 40 u t1;have h2:=U.deps 40 _ t2;exact#[u.d,p,xs,_,d1.den t1,rfl,.inr (SqT.of hp),DUs.dens 40 _ t2 ds,∅,by rw[aIn];exact q _ _ _ h e.refl #[rfl,rfl]]
 ·exact h.elim
inductive aU4(us:List U)(R:(Sl->Prop)):Prop
 |mk (ns:List Int) (q0_:us=[.ls #v[x]]) (q1_:ns.length<=1000) (q2_:(∀n∈ns,0<=n/\n<=1000)) (q3_:R (.sh (.n ns.sum))):aU4 us R
def bCo:List U->(Sl->Prop)->Prop:=λus R=>aU4 us R
def aD3{K:Ad}:CB (bBa K) bCo:=λ{W B H us vs R Q} e d ⟨ns,eu,hl,hn,h⟩ q=>by
 subst eu;obtain⟨x,rfl,dd⟩:=DBs.one d;obtain⟨p,xs,rfl,_,hp,ds⟩:=dd.ls e;rw[ds.ints]at hp;exact#[p,ns,rfl,SqL.of hp,hl,hn,q _ _ _ h e.refl #[rfl,rfl]]
def gII(f:Int->Int->Int):List U->(Sl->Prop)->Prop
 | [.v (.int i),.v (.int j)],R=>R (.sh (.n (f i j)))
 |_,_=>False
def aVn{f:Int->Int->Int}:CB (λxs H Q=>∃i j,xs=[.int i,.int j]/\Q (.int (f i j)) H) (gII f):=λ{W B H us vs R Q} e d h q=>by
 unfold gII at h;split at h
 ·obtain⟨x,y,rfl,d1,d2⟩:=DBs.two d;exact#[_,_,by rw[d1.int,d2.int],q _ _ _ h e.refl #[rfl,rfl]]
 ·exact h.elim
def bBz(F:TVa)(D:TV):TV:=λρ R=>F ρ λus=>D ρ λs=>∃ns:List Int,us=[.ls #v[x]]/\match s.rd with
 |.v (.int d)=>(ns=[]->R (.sh (.n d)))/\∀m:Int,m∈ns->(∀a∈ns,a<=m)->R (.sh (.n m))
 |_=>False
def wN{a:Cr}{k:Cr}{kp:Pos}{F:TVa}{D:TV}{p pos:Pos}(hc:X.calm=true)(hm:X.mg "max"=none)(ha:VB X [a] F)(hk:VE X k D)(hg:Gl X "max":=by rfl)
  (hkw:∀{tk:TE},PE X k tk->PK X [#[some "default",k,kp]] (aLa tk aJw):=by exactλh=>aK4 h aQr)
  (hall:#v[t].all (·.1.isSome)=true:=by rfl) (hks:#v[t].filterMap (·.1)=[("default":Str)]:=by rfl)
  (he:SE X a []:=by rfl) (hpl:BT X pos [a]:=by rfl) (hpk:#v[t].any (·.1.isNone)=false:=by rfl):
  VE X (.Call (.Name "max" p) [a] [#[some "default",k,kp]] pos) (bBz F D):=
 let⟨_,q1,f1⟩:=ha;let⟨_,q2,f2⟩:=hk;⟨_,aC4 (aKh (g:=true) hc) hg hm Yv q1 (hkw q2) hall hks ⋯ ⋯ he hpl hpk,λe h q=>f1 e h λus vs H1 h1 w1 d1=>f2 (e.to w1) h1 λs v H2 h2 w2 r2=>by
  obtain⟨ns,eu,h2⟩:=h2;subst eu;have e2:=(e.to w1).to w2;obtain⟨x,rfl,d⟩:=DBs.one (DBs.to (e.to w1).eb w2 d1);obtain⟨p,xs,rfl,_,hp,ds⟩:=d.ls e2.eb;rw[ds.ints]at hp;have dd:=r2.db (e.to w1).eb;revert h2 dd;generalize s.rd=u;intro h2 dd;split at h2
  ·rw[dd.int];exact#[p,ns,_,rfl,rfl,SqL.of hp,λz=>q _ _ _ (h2.1 z) (w1.trans w2) #[rfl,rfl],λm hm ha=>q _ _ _ (h2.2 m hm ha) (w1.trans w2) #[rfl,rfl]]
  ·exact h2.elim⟩
def huD{A:Cm}(hr:eZ k A):A.units+101<cLine:=by have:=hr.un;lia
def Rbl{R:Sl->Prop}{c d:Bool}(q:R (.sh (.b d)))(h:c=d):R (.sh (.b c)):=h▸q
theorem bG{g:TVg}{E:uJ}(I:List U->EV->Prop)(hn:∀ρ,I [] ρ->E.nx ρ)(hc:∀u r ρ,I (u::r) ρ->(∀ρ',I r ρ'->iG g b E r ρ')->iG g b E (u::r) ρ):∀{l ρ},I l ρ->iG g b E l ρ
 | [],ρ,h=>hn ρ h
 |u::r,ρ,h=>hc u r ρ h λ_ h'=>bG I hn hc h'
theorem cC{f:U->(Option U->Prop)->Prop}{R:List U->Prop}{h:U->U}:∀{l af:List U},(∀u∈l,∀k,k (some (h u))->f u k)->R (af++l.map h)->jA f l af R
 | [],af,_,r=>by rw[Gz,Bk]at r;exact r
 |u::l,af,hf,r=>hf u Ah _ (cC (λx hx=>hf x (Af _ hx)) (by rw[Cz];exact r))
theorem sU{f:U->(Option U->Prop)->Prop}{R:List U->Prop}{h:U->Option U}:∀{l af:List U},(∀u∈l,∀k,k (h u)->f u k)->R (af++l.filterMap h)->jA f l af R
 | [],af,_,r=>by rw[Wb,Bk]at r;exact r
 |u::l,af,hf,r=>by
  refine hf u Ah _ ?_;have hf':=λx(hx:x∈l)=>hf x (Af _ hx);cases e:h u with
  |none=>
   rw[Hj e]at r;exact sU hf' r
  |some x=>
   rw[Hi e]at r;exact sU hf' (by rw[Cz];exact r)
abbrev Tke:Type:=Int×List Int
def tkU(x:Tke):U:=.tp [.n x.1,.tp (x.2.map U.n)]
def DUs.mapInts{W B:Addr->Prop}{H:Hp}:∀{ns:List Int},DUs W B H #v[x] (ns.map V.int)
 | []=>rfl
 |_::_=>#[_,_,rfl,#[rfl,rfl],DUs.mapInts]
theorem yG{W B:Addr->Prop}{H:Hp}:∀{xs:List Tke}{zs:List V},DUs W B H (xs.map tkU) zs->∃ps:List (Tke×Addr),zs=ps.map (λx=>V.ref x.2)/\ps.map (·.1)=xs/\∀x∈ps,PKy H x/\DU W B H (tkU x.1) (.ref x.2)
 | [],_,h=>#[[],h,rfl,λ_ z=>nomatch z]
 |x::xs,_,⟨v,r,e,d,t⟩=>by
  obtain⟨ps,e1,e2,h⟩:=yG t;obtain⟨a,ys,rfl,nb,ha,y1,_,rfl,f1,y2,r2,rfl,⟨q,zs,rfl,nq,hq,dz⟩,e3⟩:=id d;obtain rfl:r2=[]:=e3;rw[f1.1]at ha;refine#[(x,a)::ps,by rw[e,e1];rfl,by rw[Bj,e2],λz hz=>?_];rcases Ax.mp hz with rfl|hz
  ·exact#[#[q,ha,by rw[dz.ints]at hq;exact hq],d]
  ·exact h z hz
theorem aRq{W B:Addr->Prop}{H:Hp}:∀{ps:List (Tke×Addr)},(∀x∈ps,DU W B H (tkU x.1) (.ref x.2))->DUs W B H ((ps.map (·.1)).map tkU) (ps.map λx=>V.ref x.2)
 | [],_=>rfl
 |x::ps,h=>#[_,_,rfl,h x Ah,aRq λy hy=>h y (Af _ hy)]
def bB5(F:TVa):TV:=λρ R=>F ρ λus=>∃xs:List Tke,us=[.ls (xs.map tkU)]/\xs.length<=60/\(∃ks:List Tke,ks.length<4/\∀x∈xs,x∈ks)/\∀ys:List Tke,ys.Pairwise (λx y=>xM x y=true)->(∀y,y∈ys↔y∈xs)->R (.ow (ys.map tkU))
def aY0(F:TVa):TV:=λρ R=>F ρ λus=>∃(ns:List Nat)(x:Nat),us=[.ls (ns.map λk:Nat=>U.n k)]/\(∀n∈ns,n=x)/\x∈[1,2,3]/\R (.ow ((zs1 x (decide (0<ns.length))).map λk:Nat=>U.n k))
def DUs.nats{W B:Addr->Prop}{H:Hp}:∀{ns:List Nat}{xs:List V},DUs W B H (ns.map λk:Nat=>U.n k) xs->xs=yQ ns
 | [],_,h=>h
 |_::_,_,⟨x,r,e,d,t⟩=>by rw[e,d.1,DUs.nats t];rfl
def DUs.ofNats{W B:Addr->Prop}{H:Hp}:∀{ns:List Nat},DUs W B H (ns.map λk:Nat=>U.n k) (yQ ns)
 | []=>rfl
 |_::_=>#[_,_,rfl,#[rfl,rfl],DUs.ofNats]
def aUu{a:Cr}{F:TVa}{p p' pos pos':Pos}(hr:eZ k X.A)(hc:X.calm=true)(h1:X.mg "sorted"=none)(h2:X.mg "set"=none)(ha:VB X [a] F)(g1:Gl X "sorted":=by rfl)(g2:Gl X "set":=by rfl)(hs:SE X a []:=by rfl)(hpl:BT X pos' []:=by rfl)
  (hs':Ca [.Call (.Name "set" p') [a] [] pos'] X.env=(false,eval (.Call (.Name "set" p') [a] [] pos') X.env)::Ca [] X.env:=by rfl) (hpl':BT X pos []:=by rfl):VE X (.Call (.Name "sorted" p) [.Call (.Name "set" p') [a] [] pos'] [] pos) (bB5 F):=
 let⟨_,q,f⟩:=ha;⟨_,iI (aD1 (by have:=hr.un;lia) hc) g1 h1 To (bZ (gJ (aCo (by have:=hr.un;lia) hc) g2 h2 boot_set q ⋯ ⋯ hs hpl) dN hs') ⋯ ⋯ hs' hpl',λ{W B ρ σ H R Q} e h q=>f e h λus vs H1 ⟨xs,eu,xl,fk,h1⟩ w1 d=>by
  subst eu;have e1:=e.to w1;obtain⟨x,rfl,dd⟩:=DBs.one d;obtain⟨p,zs,rfl,_,hp,ds⟩:=dd.ls e1.eb;obtain⟨ps,rfl,rfl,hk⟩:=yG ds;rw[Ab]at xl;refine#[p,ps,rfl,SqL.of hp,λx hx=>(hk x hx).1,∅,(let⟨ks,kl,km⟩:=fk;#[ks,kl,λx hx=>km _ (Aj.mpr #[x,hx,rfl])]),λl zs nl nd sub all zl=>?_];have w2:=e1.eb.new (o:=.ext (jW X.prog X.w l zs)) nl;have k2:∀x∈zs,PKy (upd H1 l (.ext (jW X.prog X.w l zs))) x/\DU W B (upd H1 l (.ext (jW X.prog X.w l zs))) (tkU x.1) (.ref x.2):=λx hx=>by
   obtain⟨⟨q,a1,a2⟩,a3⟩:=hk x (sub x hx);exact#[#[q,(aN (aR a1 nl)).trans a1,(aN (aR a2 nl)).trans a2],DU.mono (e1.eb.keep w2) _ a3]
  have e2:=e1.to w2;refine#[l,zs,rfl,aP,λx hx=>(k2 x hx).1,∅,λm ys nm pm pw=>?_];have w3:=e2.eb.new (o:=.lst (ys.map λx=>V.ref x.2)) nm;refine q (.ow ((ys.map (·.1)).map tkU)) _ _ (h1 _ ?_ λy=>?_) ((w1.trans w2).trans w3) (RO.back (s:=.ow _) (w1.trans w2) #[m,_,rfl,nm,aP,aRq λx hx=>?_])
  ·rw[Io];exact pw
  ·constructor
   ·intro hy;obtain⟨x,hx,rfl⟩:=Aj.mp hy;exact Aj.mpr #[x,sub x (pm.mem_iff.mp hx),rfl]
   ·intro hy;obtain⟨x,hx,rfl⟩:=Aj.mp hy;obtain⟨z,hz,e⟩:=all x hx;exact Aj.mpr #[z,pm.mem_iff.mpr hz,e]
  ·exact DU.mono (λb o nb h=>#[λz=>z.elim nb (aR h nm),(e2.eb.keep w3 b o nb h).2]) _ (k2 x (pm.mem_iff.mp hx)).2⟩
def aR6{a:Cr}{F:TVa}{p p' pos pos':Pos}(hc:X.calm=true)(h1:X.mg "sorted"=none)(h2:X.mg "set"=none)(ha:VB X [a] F)(g1:Gl X "sorted":=by rfl)(g2:Gl X "set":=by rfl)(hs:SE X a []:=by rfl)(hpl:BT X pos' []:=by rfl)
  (hs':Ca [.Call (.Name "set" p') [a] [] pos'] X.env=(false,eval (.Call (.Name "set" p') [a] [] pos') X.env)::Ca [] X.env:=by rfl) (hpl':BT X pos []:=by rfl):VE X (.Call (.Name "sorted" p) [.Call (.Name "set" p') [a] [] pos'] [] pos) (aY0 F):=
 let⟨_,q,f⟩:=ha;⟨_,iI (aD0 hc) g1 h1 To (bZ (gJ (aLt hc) g2 h2 boot_set q ⋯ ⋯ hs hpl) dN hs') ⋯ ⋯ hs' hpl',λ{W B ρ σ H R Q} e h q=>f e h λus vs H1 ⟨ns,y,eu,hn,h3,h1⟩ w1 d=>by
  subst eu;have e1:=e.to w1;obtain⟨x,rfl,dd⟩:=DBs.one d;obtain⟨p,zs,rfl,_,hp,ds⟩:=dd.ls e1.eb;rw[ds.nats]at hp;refine#[p,ns,y,rfl,SqL.of hp,hn,h3,λl nl=>?_];have w2:=e1.eb.new (o:=.ext (aCg X.w l y (decide (0<ns.length)))) nl;have e2:=e1.to w2;refine#[l,y,_,rfl,aP,h3,λm nm=>?_];have w3:=e2.eb.new (o:=.lst (yQ (zs1 y (decide (0<ns.length))))) nm;exact q (.ow _) _ _ h1 ((w1.trans w2).trans w3) (RO.back (s:=.ow _) (w1.trans w2) #[m,_,rfl,nm,aP,DUs.ofNats])⟩
inductive aZo(C:Addr)(F:List U->(List Str->List U->Prop)->Prop)(vs:List V)(H:Hp)(Q:VK)(z3_:XK):Prop
 |mk (x dx vs' H1 W B us R:_) (q0_:vs=.ref x::vs') (q1_:H1 x=none) (q2_:H x=some (.ins C dx [])) (q3_:aZs H1 H) (q4_:EB W B H1) (q5_:DUs W B H1 us vs') (q6_:F us R) (q7_:∀ns ws xs H',R ns ws->Fw W H1 H'->H' x=some (.ins C dx (ns.zip xs))->ns.length=xs.length->DUs W B H' ws xs->Q .non H'):aZo C F vs H Q z3_
def spI(C:Addr)(F:List U->(List Str->List U->Prop)->Prop):Sp:=λvs H Q z3_=>aZo C F vs H Q z3_
structure MkU(P:An)(w:Bh)(K:Ad)(mg:Str->#v[10])(base:Heap)(k:Nat)(C:Addr)(x:Str)(ps:List Str)(F:List U->(List Str->List U->Prop)->Prop):Prop where
 ex:∃f fd,↥k f fd ps (spI C F)/\Mk K C f/\mg x=some (.ref C)/\Binds K fd ps []
def bBy(C:Addr)(F:List U->(List Str->List U->Prop)->Prop)(a:TVa):TV:=λρ R=>a ρ λus=>F us λns ws=>R (.sh (.ob C ns ws))
def lF{x:Str}{F:List U->(List Str->List U->Prop)->Prop}{a:Cr}{es:List Cr}{G:TVa}{p pos:Pos}(M:MkU X.prog X.w X.K X.mg X.base k C x ps F)(hr:eZ (k+1) X.A)(ha:VA X (a::es) G)(hg:Gl X x:=by rfl)
  (hdb:ND x:=by decide) (he:SE X a es:=by rfl) (hpl:BT X pos es:=by rfl):VE X (.Call (.Name x p) (a::es) [] pos) (bBy C F G):=by
 obtain⟨f,fd,Fo,Mk_,hm,hb⟩:=M.ex;obtain⟨_,p,g⟩:=ha;refine#[_,aTw Mk_ Fo hr hg hm hb .nil (E:=E0) aC3 p hdb he hpl,λ{W B ρ σ H R Q} e h q=>g e h λus vs H1 h1 _ w d=>λx dx nx nd ne=>?_];have e1:=(e.to w).eb;refine#[x,dx,vs,H1,W,B,us,_,by rw[Bk],nx,aP,λb o hb=>?_,e1,d,h1,λns ws xs H' hR fw hx hl ds=>#[rfl,q (.sh (.ob C ns ws)) _ _ hR (w.trans fw) #[x,dx,xs,rfl,e1.nw nx,hx,hl,ds]]];rw[aN (aR hb nx),aN (aR hb nd)];exact hb
def tM{F:TV}{σ:St}{H:Hp}{Q:VK}{W B:Addr->Prop}{ρ:EV}{R:Sl->Prop}(e:EE W B H ρ σ)(h:F ρ R)(q:∀s v H',R s->Fw W H H'->RO W B H H' s v->Q v H'):tV F σ H Q:=#[W,B,ρ,R,e,h,q]
def pK{F:TVc}{σ:St}{H:Hp}{Q:Bool->Hp->Prop}{W B:Addr->Prop}{ρ:EV}(e:EE W B H ρ σ)(h:F ρ R)(q:∀c H',R c->Fw W H H'->Q c H'):tVc F σ H Q:=#[W,B,ρ,R,e,h,q]
section
variable {W B:Addr->Prop}{H H':Hp}
def fO{σ:St}(d:DU W B H u v)(e:EE W B H ρ σ):EE W B H (.sh u::ρ) (some v::σ):=by
 refine#[e.eb,by rw[Ao,Ao,e.len],λi u' h=>?_,λi s w h hs=>?_]
 ·cases i with
  |zero=>cases h;exact#[v,rfl,d]
  |succ i=>exact e.sh i u' h
 ·cases i with
  |zero=>cases h;cases hs
  |succ i=>exact e.hd i s w h hs
def aIo(e:EB W B H):EE W B H [] []:=#[e,rfl,nofun,nofun]
def oE{σ:St}{v:Option V}(e:EE W B H ρ σ):EE W B H (.no::ρ) (v::σ):=by
 refine#[e.eb,by rw[Ao,Ao,e.len],λi u' h=>?_,λi s w h hs=>?_]
 ·cases i with
  |zero=>cases h
  |succ i=>exact e.sh i u' h
 ·cases i with
  |zero=>cases h;cases hs
  |succ i=>exact e.hd i s w h hs
mutual
theorem DU.data(k:∀b o,¬B b->H b=some o->(∃xs,o=.tup xs)∨(∃xs,o=.lst xs)->H' b=some o):∀(n:Nat)(u:U){v:V},u.dt n->DU W B H u v->DU W B H' u v
 |_,.v _,_,_,h=>h
 |n+1,.tp l,_,t,⟨p,xs,e,nb,hp,ds⟩=>#[p,xs,e,nb,k _ _ nb hp (.inl #[_,rfl]),DUs.data k n l t ds]
 |n+1,.ls l,_,t,⟨p,xs,e,nb,hp,ds⟩=>#[p,xs,e,nb,k _ _ nb hp (.inr #[_,rfl]),DUs.data k n l t ds]
theorem DUs.data(k:∀b o,¬B b->H b=some o->(∃xs,o=.tup xs)∨(∃xs,o=.lst xs)->H' b=some o):∀(n:Nat)(l:List U){xs:List V},U.dts n l->DUs W B H l xs->DUs W B H' l xs
 |_,[],_,_,h=>h
 |n,u::l,_,⟨t,t'⟩,⟨x,r,e,h,h'⟩=>#[x,r,e,DU.data k n u t h,DUs.data k n l t' h']
end
def Fw.upd{x:Addr}{o:HO}(f:Fw W H1 H)(n:H1 x=none)(nw:¬W x):Fw W H1 (upd H x o):=⟨λb u w h=>(aN (aR h n)).trans (f.fr b u w h),λp hp=>by
 obtain⟨a,b,c,h⟩:=f.wo p hp;exact#[a,b,c,(aN (λz:p=x=>nw (by rw[<-z];exact hp))).trans h]⟩
def eU{x C dx:Addr}{o:HO}(h:H x=some (.ins C dx fs)):∀b u,¬B b->H b=some u->(∃xs,u=.tup xs)∨(∃xs,u=.lst xs)->upd H x o b=some u:=λb u _ hb ht=>by
 refine(aN (λz:b=x=>?_)).trans hb;rw[z,h]at hb;rcases ht with ⟨xs,rfl⟩|⟨xs,rfl⟩<;>cases hb
end
section
variable {W W' B:Addr->Prop}{H:Hp}
mutual
def Nw:U->Prop
 |.v _=>True
 |.tp l=>Nws l
 |.ls l=>Nws l
 |.ob _ _ us=>Nws us
 |.dk _ us=>Nws us
 |_=>False
def Nws:List U->Prop
 | []=>True
 |u::l=>Nw u/\Nws l
end
mutual
theorem DU.nw:∀(u:U){v:V},Nw u->DU W B H u v->DU W' B H u v
 |.v _,_,_,h=>h
 |.tp l,_,n,⟨p,xs,e,nb,hp,t⟩=>#[p,xs,e,nb,hp,DUs.nw l n t]
 |.ls l,_,n,⟨p,xs,e,nb,hp,t⟩=>#[p,xs,e,nb,hp,DUs.nw l n t]
 |.ob _ _ us,_,n,⟨p,dx,xs,e,nb,hp,hl,t⟩=>#[p,dx,xs,e,nb,hp,hl,DUs.nw us n t]
 |.dk _ us,_,n,⟨p,xs,e,nb,hp,hl,t⟩=>#[p,xs,e,nb,hp,hl,DUs.nw us n t]
theorem DUs.nw:∀(l:List U){xs:List V},Nws l->DUs W B H l xs->DUs W' B H l xs
 | [],_,_,h=>h
 |u::l,_,⟨n,n'⟩,⟨x,r,e,h,t⟩=>#[x,r,e,DU.nw u n h,DUs.nw l n' t]
end
end
def Sl.nw:Sl->Prop
 |.sh u=>Nw u
 |.ow l=>Nws l
 |_=>False
open Classical in
theorem jB{f:U->(Option U->Prop)->Prop}{R:List U->Prop}(P:U->Prop):∀{l af:List U},(∀u∈l,∀k:Option U->Prop,(∀x,P x->k (some x))->f u k)->(∀xs:List U,xs.length=l.length->(∀x∈xs,P x)->R (af++xs))->jA f l af R
 | [],af,_,r=>by
  have:=r [] rfl nofun
  rw[Bk]at this;exact this
 |u::l,af,hf,r=>hf u Ah _ λx hx=>jB P (λy hy=>hf y (Af _ hy)) λxs el hp=>by
  rw[Cz];exact r (x::xs) (by rw[Ao,Ao,el]) λy hy=>by
   rcases Ax.mp hy with rfl|hy
   ·exact hx
   ·exact hp y hy
def aY1(C:TVc)(b:TVS):TVS:=λE ρ=>∃I:Nat->EV->Prop,(∃m,I m ρ)/\∀m ρ,I m ρ->C ρ λc=>(c=true->b {E with nx:=λρ'=>∃m',m'<m/\I m' ρ',ct:=λρ'=>∃m',m'<m/\I m' ρ',bk:=E.nx} ρ)/\(c=false->E.nx ρ)
def aHs{c:Cr}{C:TVc}{b:TVS}(hp:Wz #v[a] X.A X.env X.xe)(hc:VC X c C)(hb:VSs X body b):VS X (.While c body [] pos) (aY1 C b):=
 let⟨_,p,f⟩:=hc;let⟨_,p',f'⟩:=hb;⟨_,aQv hp p p',λ{W B H0 A ρ σ H E D} o h j=>by
  obtain⟨I,⟨m0,i0⟩,turn⟩:=h;refine#[λm σ H=>∃A ρ,EO W B H0 A ρ σ H/\I m ρ,#[m0,A,ρ,o,i0],?_];rintro m σ H ⟨A,ρ,o,hi⟩;refine f o.ee (turn m ρ hi) λc H1 h1 w=>?_;cases c with
  |true=>exact aGj #[λσ H=>∃m',m'<m/\∃A ρ,EO W B H0 A ρ σ H/\I m' ρ,λσ' H' z=>z,f' (o.to w) (h1.1 rfl) #[λo2 ⟨m',l,i⟩=>#[m',l,_,_,o2,i],λo2 h2=>j.nx o2 h2,λo2 ⟨m',l,i⟩=>#[m',l,_,_,o2,i],j.rt,j.mr]]
  |false=>exact rQ (j.nx (o.to w) (h1.2 rfl))⟩
inductive aNv(K:Ad)(xs:List V)(H:Hp)(Q:VK):Prop
 |mk (p:Addr) (ns:List Int) (q0_:xs=[.ref p]) (q1_:SqL K H p (ns.map V.int)) (q2_:ns≠[]) (q3_:∀m:Int,m∈ns->(∀a∈ns,a<=m)->Q (.int m) H):aNv K xs H Q
def aWb(K:Ad):List V->Hp->VK->Prop:=λxs H Q=>aNv K xs H Q
def aCn(hc:X.calm=true):dR X (.builtin "max") (aWb X.K):=by
 intro aa s σ H xs us Q I r h;obtain⟨p,ns,rfl,hq,hne,q⟩:=h;obtain⟨u,rfl,ru⟩:=vals1 r;cases ru;obtain⟨ab,rv,pl,hz⟩:=I.list hq;have hi:Nm ab ns:=intsAre_of rv;obtain⟨ys,e⟩:=hi.allInts.items;have hns:ns=ys.toList.map (·.1):=by
  rw[<-hi.numsOf, <-Vr, <-e]
 have hsz:0<ys.size:=by
  have h3:0<ns.length:=Eg.mpr hne;rw[hns,Ab,Az]at h3;exact h3
 have hl:=pl.isList;rw[e]at hl;refine max_intList (I.ok.hd hc) hl hsz λv h' tk hv hk=>?_;obtain⟨t,rfl⟩:=Tj hv;obtain⟨h1,h2⟩:=argBest_gt (numAt ys) (ys.size-1);refine#[.int _,H,I.kept (t':=tk) hk,#[t,rfl],q _ ?_ λa ha=>?_]
 ·rw[hns,Vs];exact getD_mem (by rw[Ab,Az];lia)
 ·rw[hns]at ha;obtain⟨j,hj,rfl⟩:=mem_getD ha;rw[Ab,Az]at hj;rw[<-Vs];exact h2 j ∅
inductive aNr(us:List U)(R:(Sl->Prop)):Prop
 |mk (ns:List Int) (q0_:us=[.ls #v[x]]) (q1_:ns≠[]) (q2_:∀m:Int,m∈ns->(∀a∈ns,a<=m)->R (.sh (.n m))):aNr us R
def bAa:List U->(Sl->Prop)->Prop:=λus R=>aNr us R
def aKi{K:Ad}:CB (aWb K) bAa:=λ{W B H us vs R Q} e d ⟨ns,eu,hn,h⟩ q=>by
 subst eu;obtain⟨x,rfl,dd⟩:=DBs.one d;obtain⟨p,xs,rfl,_,hp,ds⟩:=dd.ls e;rw[ds.ints]at hp;exact#[p,ns,rfl,SqL.of hp,hn,λm h1 h2=>q _ _ _ (h m h1 h2) e.refl #[rfl,rfl]]
section
variable {W B:Addr->Prop}{H H':Hp}{ρ ρ':EV}{σ:St}
end
def dY(P:An)(w:Bh)(a:Addr)(xs:#v[11])(h:Heap):Prop:=(a==Gs)=false/\∃o es ep,h.get? a=some o/\o.ExactDict/\o.data=.dict es ep/\es.toList=xs.map (Oo (cX (Et P w)))/\(xs.map (·.1)).Nodup
def dY.stay{xs:#v[11]}(h1 h2:Heap)(p:dY P w a xs h1)(k:∀o,h1.get? a=some o->h2.get? a=some o):dY P w a xs h2:=let⟨y,o,es,ep,e,c⟩:=p;#[y,o,es,ep,k _ e,c]
inductive PdR(W B:Addr->Prop)(H:Hp):List (Tke×U)->#v[11]->Prop
 |nil:PdR W B H [] []
 |cons {k:Tke} {u:U} {l:List (Tke×U)} {r:#v[11]} {c:Addr} {x:Value} {v:V}:DU W B H (tkU k) (.ref c)->RelV v x->DU W B H u v->PdR W B H l r->PdR W B H ((k,u)::l) ((k,c,x)::r)
section
variable {l:List (Tke×U)}
variable {W W' B B':Addr->Prop}{H H':Hp}
def PdR.mono{xs:#v[11]}(k:∀b o,¬B b->H b=some o->¬B' b/\H' b=some o)(h:PdR W B H l xs):PdR W B' H' l xs:=by
 induction h with
 |nil=>exact .nil
 |cons d rv dv t ih=>exact .cons (DU.mono k _ d) rv (DU.mono k _ dv) ih
def PdR.wm{xs:#v[11]}(k:∀p,W p->W' p)(h:PdR W B H l xs):PdR W' B H l xs:=by
 induction h with
 |nil=>exact .nil
 |cons d rv dv t ih=>exact .cons (DU.wm k _ d) rv (DU.wm k _ dv) ih
def PdR.keys{xs:#v[11]}(h:PdR W B H l xs):xs.map (·.1)=l.map (·.1)/\∀x∈xs,DU W B H (tkU x.1) (.ref x.2.1):=by
 induction h with
 |nil=>exact#[rfl,nofun]
 |cons d rv dv t ih=>exact#[Ab9 (_::·) ih.1,λx hx=>(Ax.mp hx).elim (λz=>z▸d) (ih.2 x)]
def PdR.len{xs:#v[11]}(h:PdR W B H l xs):xs.length=l.length:=by
 have:=Ab9 Fm h.keys.1;simpa using this
def aRn{k:Tke}(d:DU W B H (tkU k) y):∃b,y=.ref b/\PKy H (k,b):=by
 obtain⟨a,ys,rfl,nb,ha,y1,_,rfl,f1,y2,r2,rfl,⟨q,zs,rfl,nq,hq,dz⟩,e3⟩:=d;obtain rfl:r2=[]:=e3;rw[f1.1]at ha;exact#[a,rfl,q,ha,by rw[dz.ints]at hq;exact hq]
def aYn{k:Tke}(d:DU W B H (tkU k) (.ref b)):PKy H (k,b):=by
 obtain⟨_,e,h⟩:=aRn d;cases e;exact h
end
def pdO(P:An)(w:Bh)(kvs:List (Tke×U)):Own:=#[λW B S H p=>(∀b,S b↔b=p)/\∃xs,H p=some (.ext (dY P w p xs))/\PdR W B H kvs xs,λk e ⟨s,xs,h,r⟩=>#[s,xs,(e _ ((s _).mpr rfl)).trans h,r.mono k],λk ⟨s,xs,h,r⟩=>#[s,xs,h,r.wm k],λ⟨s,_,h,_⟩ b hb=>by rw[(s b).mp hb];exact#[_,h,trivial]]
def aL9(P:An)(w:Bh)(s:Sl)(kvs:List (Tke×U)):Prop:=s=.bo (pdO P w kvs)∨s=.oo (pdO P w kvs)∨s=.sh (.op (pdO P w kvs).fz)
def RO.pd{W B:Addr->Prop}{H H':Hp}{kvs:List (Tke×U)}(h:aL9 P w s kvs)(r:RO W B H H' s v):∃p xs,v=.ref p/\H' p=some (.ext (dY P w p xs))/\PdR W B H' kvs xs:=by
 rcases h with rfl|rfl|rfl
 ·obtain⟨p,S,e,_,_,xs,h⟩:=r;exact#[p,xs,e,h]
 ·obtain⟨p,S,e,_,h⟩:=r;obtain⟨_,xs,h⟩:=Own.less _ h;exact#[p,xs,e,h]
 ·obtain⟨p,S,e,_,_,xs,h⟩:=r;exact#[p,xs,e,h]
def aTr{H:Hp}{h:Heap}{xs:#v[11]}(ok:HOk P w H h)(e:H a=some (.ext (dY P w a xs)))(k:∀x∈xs,PKy H (x.1,x.2.1)):(a==Gs)=false/\h.DictOfH (cX (Et P w)) a xs:=by
 obtain⟨⟨y,o,es,ep,h1,h2,h3,h4,h5⟩,_,_⟩:=(show bO P w H h a (.ext (dY P w a xs))from ok a _ e);exact#[y,o,es,ep,h1,h2,h3,h4,λx hx=>zT (x:=(x.1,x.2.1)) ok (k x hx),h5]
variable {o i value:Cr}{pos pos':Pos}{td ty tv:TE}
variable {P:An}{w:Bh}
section
variable {W B:Addr->Prop}{H0 H H1:Hp}{A:Nat->Addr->Prop}{ρ:EV}{σ:St}
end
def mG(l:List U)(lo hi:Option Int):List U:=(l.drop (HT.sIx l.length 0 lo)).take (HT.sIx l.length l.length hi-HT.sIx l.length 0 lo)
def DUs.cut{W B:Addr->Prop}{H:Hp}{l:List U}{xs:List V}{lo hi:Option Int}(d:DUs W B H l xs):DUs W B H (mG l lo hi) (aAr xs lo hi):=by
 unfold mG aAr;rw[d.length];exact(d.drop _).take _
abbrev TVo:=EV->(Option Int->Prop)->Prop
def VTo(t:TO)(F:TVo):Prop:=∀{W B:Addr->Prop}{ρ:EV}{σ:St}{H:Hp}{R:Option Int->Prop}{Q:Option Int->Hp->Prop},EE W B H ρ σ->F ρ R->(∀o H',R o->Fw W H H'->Q o H')->t σ H Q
def VO(X:Cx)(e:Option Cr)(F:TVo):Prop:=∃t,PO X e t/\VTo t F
def bDk:TVo:=λ_ R=>R none
def bDp(F:TV):TVo:=λρ R=>F ρ λs=>match s.rd with
 |.v (.int i)=>R (some i)
 |_=>False
def vSl(F:TV)(L M:TVo):TV:=λρ R=>F ρ λs=>L ρ λlo=>M ρ λhi=>match s.rd with
 |.ls l=>R (.ow (mG l lo hi))
 |.tp l=>¬(HT.sIx l.length 0 lo=0/\HT.sIx l.length l.length hi=l.length)/\R (.sh (.tp (mG l lo hi)))
 |_=>False
def aE7:VO X none bDk:=#[_,aT0,λe h q=>q _ _ h e.eb.refl]
def wO{e:Cr}{F:TV}(h:VE X e F):VO X (some e) (bDp F):=by
 obtain⟨_,p,f⟩:=h;refine#[_,aT1 p,λe h q=>f e h λs v H1 h1 w r=>?_];have d:=r.db e.eb;revert h1 d;generalize s.rd=u;intro h1 d;split at h1
 ·exact#[_,d.int,q _ _ h1 w]
 ·exact h1.elim
def aR5{a:Cr}{lo hi:Option Cr}{p2 pos:Pos}{F:TV}{L M:TVo}(ha:VE X a F)(hl:VO X lo L)(hh:VO X hi M):VE X (.Subscript a (.Slice lo hi none p2) pos) (vSl F L M):=by
 obtain⟨_,p,f⟩:=ha;obtain⟨_,p1,f1⟩:=hl;obtain⟨_,p2,f2⟩:=hh;refine#[_,aGz (aK9.or aRe) p p1 p2,λ{W B ρ σ H R Q} e h q=>f e h λs v H1 h1 w1 r1=>f1 (e.to w1) h1 λlo H2 h2 w2=>f2 ((e.to w1).to w2) h2 λhi H3 h3 w3=>?_];have e3:=((e.to w1).to w2).to w3;have ww:=(w1.trans w2).trans w3;have d:=((r1.db e.eb).to (e.to w1).eb w2).to ((e.to w1).to w2).eb w3;revert h3 d;generalize s.rd=u;intro h3 d;split at h3
 ·obtain⟨a,xs,rfl,_,ha,ds⟩:=d.ls e3.eb;refine .inl #[a,xs,rfl,SqL.of ha,λp n=>?_];have f4:=e3.eb.new (o:=.lst (aAr xs lo hi)) n;exact q _ _ _ h3 (ww.trans f4) (RO.back (s:=.ow _) ww #[p,_,rfl,n,aP,DUs.mono (λb o nb h=>#[λz=>z.elim nb (aR h n),(e3.eb.keep f4 b o nb h).2]) _ ds.cut])
 ·obtain⟨a,xs,rfl,_,ha,ds⟩:=d.tp;refine .inr #[a,xs,rfl,SqT.of ha,by rw[<-ds.length];exact h3.1,λp n=>?_];have f4:=e3.eb.new (o:=.tup (aAr xs lo hi)) n;exact q _ _ _ h3.2 (ww.trans f4) #[p,_,rfl,e3.eb.nw n,aP,DUs.mono (e3.eb.keep f4) _ ds.cut]
 ·exact h3.elim
theorem aHd:∀(n:Nat)(L:#v[11]),L.length=n->(L.map (·.1)).Nodup->qG L=L
 |0,L,h,_=>by rw[Dp.mp h];rfl
 |n+1,L,h,nd=>by
  obtain⟨M,x,rfl⟩:∃M x,L=M++[x]:=#[L.dropLast,L.getLast (by intro z;rw[z]at h;cases h),(Kr _).symm];rw[Am,Dw]at h;rw[Co,Ei]at nd;rw[rG,aHd n M ∅ nd.1];have e:Vu M x.1=none:=by
   unfold Vu;rw[List.find?_eq_none.mpr λy hy z=>nd.2.2 y.1 (Aj.mpr #[y,hy,rfl]) x.1 (by simp) (Ab3 z)];rfl
  unfold Of;rw[e];rfl
section
variable {W W' B B':Addr->Prop}{H H':Hp}{f:Tke->List U}
variable {l:List Tke}{xs:#v[11]}
end
def aTo{P:An}{w:Bh}{x:Tke}(e:(cX (Et P w)).is h x a)(k:∀b o,h.get? b=some o->h'.get? b=some o):(cX (Et P w)).is h' x a:=by
 obtain⟨o,v,b,n,h1,h2,h3,h4,o',ab,m,g1,g⟩:=e;exact#[o,v,b,n,k _ _ h1,h2,h3,h4,o',ab,m,k _ _ g1,g]
def boot_dict:Fg "dict"=some (.type "dict"):=by decide+kernel
mutual
def U.tt:U->Prop
 |.v _=>True
 |.tp l=>U.tts l
 |_=>False
def U.tts:List U->Prop
 | []=>True
 |u::l=>U.tt u/\U.tts l
end
section
variable {W W' B B':Addr->Prop}{H:Hp}
mutual
theorem DU.tt(e:EB W' B' H):∀(u:U){v:V},u.tt->DU W B H u v->DU W' B' H u v
 |.v _,_,_,h=>h
 |.tp l,_,t,⟨p,xs,e1,_,hp,ds⟩=>⟨p,xs,e1,λz=>by
  obtain⟨o,h,m⟩:=e.bl p z;rw[hp]at h;cases h;exact m,hp,DUs.tt e l t ds⟩
theorem DUs.tt(e:EB W' B' H):∀(l:List U){xs:List V},U.tts l->DUs W B H l xs->DUs W' B' H l xs
 | [],_,_,h=>h
 |u::l,_,⟨t,t'⟩,⟨x,r,e1,h,h'⟩=>#[x,r,e1,DU.tt e u t h,DUs.tt e l t' h']
end
end
def Sl.tt:Sl->Prop
 |.sh u=>u.tt
 |.ow l=>U.tts l
 |_=>False
def EE.more{W B:Addr->Prop}{H H1:Hp}{σ:St}{x:HO}(e:EE W B H ρ σ)(f:Fw W H H1)(n:H p=none)(h1:H1 p=some x)(m:Mt x):EE W (λb=>B b∨b=p) H1 ρ σ:=by
 have k:∀b o,¬B b->H b=some o->¬(B b∨b=p)/\H1 b=some o:=λb o nb h=>#[λz=>z.elim nb (aR h n),(e.eb.keep f b o nb h).2];have e1:=(e.to f).eb;refine#[#[λq hq=>hq.elim (e1.bl q) λz=>#[x,by rw[z];exact h1,m],λq hq=> .inl (e1.wb q hq),e1.wo],e.len,λi u h=>?_,λi s w h hs=>?_]
 ·obtain⟨v,h1,h2⟩:=e.sh i u h;exact#[v,h1,DU.mono k u h2]
 ·obtain⟨p,S,h1,h2,h3⟩:=e.hd i s w h hs;exact#[p,S,h1,h2,w.mono k (λb hb=>let⟨y,hx,_⟩:=w.th h3 b hb;(f.fr b y (h2 b hb) hx).trans hx.symm) h3]
def bBv(F:TVa):TV:=λρ R=>F ρ λus=>∃xs:List Tke,us=[.ls (xs.map tkU)]/\xs.length<4/\∀n:Nat,(xs.Nodup->n=xs.length)->R (.sh (.n n))
def aLp:dR X (.builtin "len") (λxs H Q=>∃p ps,xs=[V.ref p]/\H p=some (.ext (jW X.prog X.w p ps))/\ps.length<1000/\Q (.int ps.length) H):=by
 intro aa s σ H xs us Q I r h;obtain⟨p,ps,rfl,hp,hl,q⟩:=h;obtain⟨u,rfl,ru⟩:=vals1 r;cases ru;obtain⟨⟨o,es,ep,t,h1,h2,h3,h4,h5,h6,_⟩,_,_⟩:=(show bO X.prog X.w H s.heap p (.ext (jW X.prog X.w p ps))from I.hok p _ hp);have el:es.size=ps.length:=by rw[<-Az,h4,Ab]
 have hf:t.fits es.size=true:=by
  unfold Ql Qm;have h2:=h5.room;rw[h5.dum];simp[h6]
  lia
 exact call_len_set h1 h2 h3 hf ∅ #[.int es.size,H,I.tok _,#[_,rfl],by rw[el];exact q]
def aUq{a:Cr}{F:TVa}{p p' pos pos':Pos}(hr:eZ k X.A)(hc:X.calm=true)(h1:X.mg "len"=none)(h2:X.mg "set"=none)(ha:VB X [a] F)(g1:Gl X "len":=by rfl)(g2:Gl X "set":=by rfl)(hs:SE X a []:=by rfl)(hpl:BT X pos' []:=by rfl)
  (hs':Ca [.Call (.Name "set" p') [a] [] pos'] X.env=(false,eval (.Call (.Name "set" p') [a] [] pos') X.env)::Ca [] X.env:=by rfl) (hpl':BT X pos []:=by rfl):VE X (.Call (.Name "len" p) [.Call (.Name "set" p') [a] [] pos'] [] pos) (bBv F):=
 let⟨_,q,f⟩:=ha;⟨_,iI aLp g1 h1 Cf (bZ (gJ (aCo (by have:=hr.un;lia) hc) g2 h2 boot_set q ⋯ ⋯ hs hpl) dN hs') ⋯ ⋯ hs' hpl',λ{W B ρ σ H R Q} e h q=>f e h λus vs H1 ⟨xs,eu,xl,h1⟩ w1 d=>by
  subst eu;have e1:=e.to w1;obtain⟨x,rfl,dd⟩:=DBs.one d;obtain⟨p,zs,rfl,_,hp,ds⟩:=dd.ls e1.eb;obtain⟨ps,rfl,rfl,hk⟩:=yG ds;rw[Ab]at xl;refine#[p,ps,rfl,SqL.of hp,λx hx=>(hk x hx).1,∅,#[ps.map (·.1),by rw[Ab];lia,λx hx=>Aj.mpr #[x,hx,rfl]],λl zs nl nd sub all zl=>?_];refine#[l,zs,rfl,aP,∅,q _ _ _ (h1 zs.length λnx=>?_) (w1.trans (e1.eb.new nl)) #[rfl,rfl]];have pm:(zs.map (·.1)).Perm (ps.map (·.1)):=(List.perm_ext_iff_of_nodup nd nx).mpr λy=>⟨λhy=>by
   obtain⟨x,hx,rfl⟩:=Aj.mp hy;exact Aj.mpr #[x,sub x hx,rfl],λhy=>by
   obtain⟨x,hx,rfl⟩:=Aj.mp hy;obtain⟨z,hz,e⟩:=all x hx;exact Aj.mpr #[z,hz,e]⟩
  have:=pm.length_eq;rw[Ab,Ab]at this;rw[this,Ab]⟩
section
open PySem.W
variable {prog:An}{w:Bh}{A:Cm}{E:#v[5]}{s:Shared}
end
section
open PySem.W
variable {prog:An}{w:Bh}{A:Cm}{E:#v[5]}{s:Shared}{α:Type} [DecidableEq α] [Inhabited α]{knd:Iq prog w α}{ok:α->Prop}{lt:α->α->Bool}
end
def aN8:dR X (.builtin "isinstance") (λxs H Q=>∃p ps,xs=[V.ref p,V.ty "dict"]/\H p=some (.ext (dY X.prog X.w p ps))/\Q (.bl true) H):=by
 intro aa s σ H xs us Q I r h;obtain⟨p,ps,rfl,hp,q⟩:=h;obtain⟨u,u',rfl,ru,ru'⟩:=vals2 r;cases ru;obtain rfl:u'=Hr "dict":=ru';obtain⟨⟨lo,o,es,ep,h1,h2,_⟩,_,_⟩:=(show bO X.prog X.w H s.heap p (.ext (dY X.prog X.w p ps))from I.hok p _ hp);exact En Ol I.kIn #[o,h1,h2.1] (b:=true) rfl (λz=>nomatch z) λtk=>#[.bl true,H,I.tok _,rfl,q]
def bDh(P:An)(w:Bh)(F:TV):TV:=λρ R=>F ρ λs=>(∃kvs,aL9 P w s kvs)/\R #v[y]
def aY8{a:Cr}{F:TV}{p p' pos:Pos}(hP:X.prog=P)(hw:X.w=w)(hm:X.mg "isinstance"=none)(hm2:X.mg "dict"=none)(ha:VE X a F)(hg:Gl X "isinstance":=by rfl)(hg2:Gl X "dict":=by rfl)
  (hs:Ca [a,.Name "dict" p'] X.env=(false,eval a X.env)::Ca [.Name "dict" p'] X.env:=by rfl) (hs2:Ca [.Name "dict" p'] X.env=(false,eval (.Name "dict" p') X.env)::Ca [] X.env:=by rfl) (hpl:BT X pos [.Name "dict" p']:=by rfl):
  VE X (.Call (.Name "isinstance" p) [a,.Name "dict" p'] [] pos) (bDh P w F):=by
 subst hP hw;obtain⟨_,q,f⟩:=ha;refine#[_,iI aN8 hg hm Abp (bZ q (bZ (aK1 (v:=.ty "dict") hg2 hm2 boot_dict rfl ⋯ ⋯) dN hs2) hs) ⋯ ⋯ hs hpl,λe h q=>f e h λs v H1 h1 w r=>?_];obtain⟨⟨kvs,hs⟩,h1⟩:=h1;obtain⟨a,xs,rfl,g1,g2⟩:=r.pd hs;exact#[a,xs,rfl,g1,q _ _ _ h1 w #[rfl,rfl]]
section
open PySem.Builtin.Dict
variable {prog:An}{w:Bh}{A:Cm}{E:#v[5]}{s:Shared}{K:Type} [DecidableEq K]{knd:Iq prog w K}
end
open PyProof.Rows in
open PyProof.Rows in
section
variable {prog:An}{w:Bh}{A:Cm}{E:#v[5]}{s:Shared}
end
def PdR.vals{W B:Addr->Prop}{H:Hp}{xs:#v[11]}(h:PdR W B H l xs):∃vs,Vals vs (xs.map (·.2.2))/\DUs W B H (l.map (·.2)) vs:=by
 induction h with
 |nil=>exact#[[],.nil,rfl]
 |cons d rv dv t ih=>exact let⟨vs,h1,h2⟩:=ih;#[_::vs,.cons rv h1,_,vs,rfl,dv,h2]
variable {prog:An}
def aNp(g:TG):Prop:=∀x σ H(Q Q':St->Hp->Prop),(∀σ H,Q σ H->Q' σ H)->g x σ H Q->g x σ H Q'
def aKu{i:Nat}:aNp (pY i):=λ_ _ _ _ _ m h=>m _ _ h
section
variable {X:Cx}
def aY4{elt iter tg:Cr}{own:List Str}{cap:#v[12]}{pos:Pos}{Fi:TVa}{G:TVg}{F:TV}(gm:aNp g)(sc0:Scope)(N0:List Str)(hsc:X.env.scope=sc0)(hN:X.N=N0)(hcell:HC X)
  (ok:aDc scope sc0 cap N0) (hc:X.calm=true) (hi:VIc X tg iter Fi) (hg:∀cs,dM X scope cs->∀C s2 H2 fp,PG #v[h] tg g) (hG:VTh own.length g G) (he:∀cs,dM X scope cs->∀C s2 H2 fp,VE #v[h] elt F)
  (hs:FS X iter:=by intro _;rfl):VE X #v[8] (aBo own.length cap Fi G F):=
 let⟨_,p,f⟩:=hi;#[_,let⟨_,S⟩:=aOd hsc hN hcell ok;aQl S hc p gm hg (λcs cf C s2 H2 fp=>(he cs cf C s2 H2 fp).can) hs,wQ f hG]
def aZc{i:Nat}{x:Str}{elt iter tg:Cr}{own:List Str}{cap:#v[12]}{pos spos py:Pos}{Fi:TVa}{G:TVg}{F:TV}(gm:aNp g)(hnd:X.N.Nodup)(sc0:Scope)(N0:List Str)(hsc:X.env.scope=sc0)(hN:X.N=N0)(hcell:HC X)
  (ok:aDc scope sc0 cap N0) (hc:X.calm=true) (hi:VIc X tg iter Fi) (hg:∀cs,dM X scope cs->∀C s2 H2 fp,PG #v[h] tg g) (hG:VTh own.length g G) (he:∀cs,dM X scope cs->∀C s2 H2 fp,VE #v[h] elt F)
  (hi':X.N[i]? =some x:=by rfl) (hx:Loc X.env.scope x:=by exact Dl rfl) (hsw:#v[p]:=by rfl)
  (hs:FS X iter:=by intro _;rfl) (hf:FL X x:=by trivial):VS X (.Assign [.Name x py] #v[8] spos) (aRv i (aBo own.length cap Fi G F)):=
 let⟨_,p,f⟩:=hi;#[_,let⟨_,S⟩:=aOd hsc hN hcell ok;aG0 hnd hi' hx S hc p gm hg (λcs cf C s2 H2 fp=>(he cs cf C s2 H2 fp).can) hsw hs hf,λo h j=>wQ f hG o.ee h λs v H1 h1 w r=>aBc o w r h1 j.nx]
section
variable {elt iter tg ci:Cr}{Nc:List Str}{scope isc:Scope}{cs:List (Str×Addr)}{C:Addr}{s2:Shared}{H2:Hp}{fp:List Addr}{own:List Str}{icap:#v[12]}{pos:Pos}{Fi:TVa}{g:TG}{G:TVg}{Ct:TVc}{F:TV}
def aRz(fsc:Scope)(cf:dM X scope cs)(hfs:X.env.scope=fsc)(hk:fsc.kind=.function)(ok:aH2 isc scope fsc icap Nc)(hc:X.calm=true)(hi:VIc #v[m] tg iter Fi)
  (hg:∀cl C' s3 H3 fp',PG (bD #v[m] (cH own icap) isc cl C' s3 H3 fp') tg g) (hG:VTh own.length g G) (he:∀cl C' s3 H3 fp',VE (bD #v[m] (cH own icap) isc cl C' s3 H3 fp') elt F)
  (hs:∀x,Qz iter #v[m].env x=pure x:=by intro _;rfl):VE #v[m] (.ListComp elt [#[tg,iter,[],0]] isc pos) (aBo own.length icap Fi G F):=
 let⟨_,p,f⟩:=hi;#[_,aXr fsc cf hfs hk ok hc p hg (λcl C' s3 H3 fp'=>(he cl C' s3 H3 fp').can) hs,wQ f hG]
end
def aYq(F:#v[q])(a:TV)(b:TVa):TV:=λρ R=>a ρ λs=>match s with
 |.ow [.v (.int _),.v (.int _),.v (.int _)]=>b ρ λus=>F (.wl::us) λs=>s.nw/\R s
 |_=>False
def aRx{x:Str}{F:#v[q]}{a:Cr}{es:List Cr}{Fa:TV}{G:TVa}{p pos:Pos}(C:Cal X.prog X.w X.K X.mg X.base CX0 k x ps (spV F))(hr:eZ k X.A)(hg:Gl X x)
  (ha:VE X a Fa) (hb:VA X es G) (hdb:ND x:=by decide) (he:SE X a es:=by rfl) (hpl:BT X pos es:=by rfl):
  VE X (.Call (.Name x p) (a::es) [] pos) (aYq F Fa G):=
 let⟨_,p,f⟩:=ha;let⟨_,p',f'⟩:=hb;⟨_,aXp C hr hg aC3 (bZ p p' he) hdb he hpl,λ{W B ρ σ H R Q} e h q=>f e h λs v H1 h1 f1 r1=>by
  match s,h1,r1 with
  |.ow [.v (.int x),.v (.int y),.v (.int z)],h1,⟨p,xs,e1,n1,g2,dd⟩=>
   obtain⟨x1,_,rfl,d1,x2,_,rfl,d2,x3,r3,rfl,d3,d4⟩:=dd;obtain rfl:r3=[]:=d4;rw[d1.1,d2.1,d3.1]at g2;have nw:¬W p:=λz=>e.eb.dm p (e.eb.wb p z) n1;refine f' (e.more f1 n1 g2 trivial) h1 λus vs H2 h2 _ f2 d=>?_;have g3:=f2.fr p _ nw g2;have e2:=((e.more f1 n1 g2 trivial).to f2).eb;refine#[λb=>W b∨b=p,λb=>B b∨b=p,.wl::us,_,#[e2.bl,λq hq=>hq.imp (e.eb.wb q) id,λq hq=>hq.elim (e2.wo q) λz=>by rw[z];exact#[_,_,_,g3]],(by rw[Bk];exact#[v,vs,rfl,#[p,e1,.inr rfl],DUs.wm (λ_=> .inl) us d]),h2,λs v H3 h3 f3 r3=>?_];have f4:Fw W H H3:=#[λb o w h=>f3.fr b o (λz=>z.elim w λy=>by rw[y,n1]at h;cases h) ((f1.trans f2).fr b o w h),λq hq=>f3.wo q (.inl hq)];have mo:∀b o,¬(B b∨b=p)->H3 b=some o->¬B b/\H3 b=some o:=λb o n h=>#[λz=>n (.inl z),h];refine q _ _ _ h3.2 f4 ?_;match s,h3.1,r3 with
   |.sh u,n,r=>exact DU.nw u n (DU.mono mo u r)
   |.ow l,n,⟨c,ys,e3,m1,m2,m3⟩=>exact#[c,ys,e3,(f1.trans f2).none_ m1,m2,DUs.nw l n (DUs.mono (λb o n h=>#[λz=>n (z.imp .inl id),h]) l m3)]⟩
end
def bAc:U->U->(Sl->Prop)->Prop
 |.ls l,.v (.int k),R=>0<=k/\k<=1000/\l.length<=10/\R (.ow (Bi k.toNat l).flatten)
 |_,_,_=>False
def DUs.rep{W B:Addr->Prop}{H:Hp}{xs:List V}(d:DUs W B H l xs):∀k,DUs W B H (Bi k l).flatten (Bi k xs).flatten
 |0=>rfl
 |k+1=>by rw[Gp,Gp,Dt,Dt];exact d.app (d.rep k)
def aPq:O2 bA6 bAc:=λ{W B H u v x y R Q} e d1 d2 h q=>by
 unfold bAc at h;split at h
 ·rename_i l k;obtain⟨h0,hk,hl,h⟩:=h;obtain⟨p,xs,rfl,hp,ds⟩:∃p xs,x=.ref p/\H p=some (.lst xs)/\DUs W B H l xs:=d1.elim (λ⟨p,xs,a,_,b,c⟩=>#[p,xs,a,b,c]) λ⟨l',p,xs,e1,a,_,b,c⟩=>by cases e1;exact#[p,xs,a,b,c]
  obtain rfl:y=.int k:=d2.elim (λd=>d.1) λ⟨_,_,_,e1,_⟩=>nomatch e1
  have dl:=ds.length;refine#[p,k,xs,rfl,rfl,hp,∅,∅,Dd (Nat.mul_le_mul (show xs.length<=10 by lia) (show k.toNat<=1000 by lia)) ⋯,λr nr=>?_];have f:=e.new (o:=.lst (Bi k.toNat xs).flatten) nr;exact q (.ow (Bi k.toNat l).flatten) _ _ h f #[r,_,rfl,nr,aP,DUs.mono (λb o nb h=>#[λz=>z.elim nb (aR h nr),(e.keep f b o nb h).2]) _ (ds.rep _)]
 ·exact h.elim
def Sl.nwN:Sl->Prop
 |.sh u=>Nw u∨∃o:Opq,u=.op o/\∀{W W' B:Addr->Prop}{H:Hp}{v:V},o.φ W B H v->o.φ W' B H v
 |.ow l=>Nws l
 |.no=>True
 |_=>False
def bB8(i:Nat)(G:TVS):TVS:=λE ρ=>match (ρ[i]? :Option Sl)with
 |some (.ow [.v (.int _),.v (.int _),.v (.int _)])=>G {nx:=λρ'=>(∀j s,j≠i->ρ'[j]? =some s->s.nwN)/\E.nx (ρ'.set i .no),rt:=λs=>s.nw/\E.rt s} (ρ.set i (.sh .wl))
 |_=>False
open Classical in
def aNk{X:Cx}{st:List Stmt}{G:TVS}(i:Nat)(h:VSs X st G):VSs X st (bB8 i G):=let⟨_,p,f⟩:=h;⟨_,p,λ{W B H0 A ρ σ H E D} o h j=>by
 unfold bB8 at h;split at h
 ·rename_i a b c hi;obtain⟨q,xs,h1,h2,h3,h4⟩:=o.ow i _ hi;have ex:xs=[.int a,.int b,.int c]:=DUs.ints (ns:=[a,b,c]) h4;subst ex;have hq:=(h2 q).mpr rfl;have nq:H0 q=none:=o.an i q hq;have nB:¬B q:=o.now nq;have bx:∀b,Bx (λb=>B b∨b=q) (λj q=>j≠i/\A j q) b↔Bx B A b:=λb=>by
   constructor
   ·rintro((h|rfl)|⟨j,h⟩)
    ·exact .inl h
    ·exact .inr #[i,hq]
    ·exact .inr #[j,h.2]
   ·rintro(hb|⟨j,hb⟩)
    ·exact .inl (.inl hb)
    ·by_cases e:j=i
     ·rw[e]at hb;exact .inl (.inr ((h2 b).mp hb))
     ·exact .inr #[j,e,hb]
  have k:∀b x,¬Bx B A b->H b=some x->¬Bx (λb=>B b∨b=q) (λj q=>j≠i/\A j q) b/\H b=some x:=λb x n h=>#[λz=>n ((bx b).mp z),h];have own:∀b,B b->¬ ∃j,j≠i/\A j b:=λb hb ⟨j,_,h⟩=>o.now (o.an j b h) hb;have ownq:¬ ∃j,j≠i/\A j q:=λ⟨j,n,h⟩=>n (o.inj j i q h hq);let H2:Hp:=λb=>if∃j,j≠i/\A j b then none else H b
  have hH2:∀b x,H2 b=some x->H b=some x:=λb x h=>by
   have h:(if∃j,j≠i/\A j b then none else H b)=some x:=h;split at h
   ·cases h
   ·exact h
  have hH:∀b,(¬ ∃j,j≠i/\A j b)->H2 b=H b:=λb n=>Ab0 n;have e0:=o.ee.eb;have Wl:∀p,(W p∨p=q)->Wll H p:=λp hp=>hp.elim (o.fw.wo p) λe=>#[a,b,c,by rw[e];exact h3];have wq:∀p,(W p∨p=q)->¬ ∃j,j≠i/\A j p:=λp hp=>hp.elim (λw=>own p (o.eb.wb p w)) λe=>by rw[e];exact ownq
  have o2:EO (λp=>W p∨p=q) (λb=>B b∨b=q) H2 (λj q=>j≠i/\A j q) (ρ.set i (.sh .wl)) σ H:=by
   refine#[#[λp hp=>?_,λp hp=>hp.elim (λw=> .inl (o.eb.wb p w)) .inr,λp hp=>?_],#[λb x _ h=>hH2 b x h,Wl],by rw[Cg,o.len],λj p h=>Ab1 #[j,h],λj p h=>o.aw j p h.2,λj j' p h h'=>o.inj j j' p h.2 h'.2,λj u h=>?_,λj m w h hm=>?_,λj m h=>?_]
   ·rcases hp with hp|hp
    ·obtain⟨xs,e,m⟩:=e0.bl p (.inl hp);exact#[xs,(hH p (own p hp)).trans e,m]
    ·exact#[.lst _,(hH p (wq p (.inr hp))).trans (by rw[hp];exact h3),trivial]
   ·obtain⟨x,y,z,e⟩:=Wl p hp;exact#[x,y,z,(hH p (wq p hp)).trans e]
   ·rcases bT h with ⟨rfl,e,hl⟩|⟨ne,h⟩
    ·cases e;exact#[_,h1,q,rfl,.inr rfl]
    ·obtain⟨v',g1,g2⟩:=o.sh j u h;exact#[v',g1,DU.wm (λ_=> .inl) u (DU.mono k u g2)]
   ·rcases bT h with ⟨rfl,rfl,hl⟩|⟨ne,h⟩
    ·cases hm
    ·obtain⟨p,g1,g3⟩:=o.hd j m w h hm;exact#[p,g1,w.at_ (w.wm (λ_=> .inl) (w.mono k (λ_ _=>rfl) g3)) (aEg ne)]
   ·rcases bT h with ⟨rfl,rfl,hl⟩|⟨ne,h⟩
    ·rfl
    ·exact o.nb j m h
  have keep:∀b x,H0 b=some x->H b=some x->H2 b=some x:=λb x h0 h=>(hH b λ⟨j,_,e⟩=>by rw[o.an j b e]at h0;cases h0).trans h;have fW:∀{Hf},Fw (λp=>W p∨p=q) H2 Hf->Fw W H0 Hf:=λfw=>#[λb x w h0=>fw.fr b x (λz=>z.elim w λe=>by rw[e,nq]at h0;cases h0) (keep b x h0 (o.fw.fr b x w h0)),λp hp=>fw.wo p (.inl hp)];have back:∀p,H2 p=none->H0 p=none:=λp' e2=>by
   cases z:H0 p' with
   |none=>rfl
   |some x=>
    by_cases w:W p'
    ·obtain⟨_,_,_,y⟩:=o2.eb.wo p' (.inl w);rw[y]at e2;cases e2
    ·rw[keep p' x z (o.fw.fr p' x w z)]at e2;cases e2
  refine f o2 h #[λ{A1 ρ1 σ1 Hf} o1 ⟨hn,hE⟩=>?_,λ_ z=>z.elim,λ_ z=>z.elim,λ{s v Hf} fw r hs=>?_,λ_ _ z=>z.elim]
  ·have bx:∀b,¬Bx (λb=>B b∨b=q) A1 b->¬Bx B (λj p=>j≠i/\A1 j p) b:=λb n z=>n (z.elim (λz=> .inl (.inl z)) λ⟨j,z⟩=> .inr #[j,z.2]);have kk:∀b x,¬Bx (λb=>B b∨b=q) A1 b->Hf b=some x->¬Bx B (λj p=>j≠i/\A1 j p) b/\Hf b=some x:=λb x n h=>#[bx b n,h];refine j.nx (A:=λj p=>j≠i/\A1 j p) #[o.eb,fW o1.fw,by rw[Cg,o1.len],λj p h=>back p (o1.an j p h.2),λj p h=>o1.aw j p h.2,λj j' p h h'=>o1.inj j j' p h.2 h'.2,λj u h=>?_,λj m w h hm=>?_,λj m h=>?_] hE
   ·rcases bT h with ⟨_,e,_⟩|⟨ne,h⟩
    ·cases e
    ·obtain⟨v,g1,g2⟩:=o1.sh j u h;refine#[v,g1,?_];rcases hn j _ ne h with n|⟨oo,rfl,n⟩
     ·exact DU.nw u n (DU.mono kk u g2)
     ·exact n (oo.mono kk g2)
   ·rcases bT h with ⟨_,rfl,_⟩|⟨ne,h⟩
    ·cases hm
    ·have n:=hn j _ ne h;obtain⟨p,g1,g3⟩:=o1.hd j m w h hm;refine#[p,g1,?_];cases m with
     |ow l=>
      cases hm;obtain⟨s,xs,h5,d⟩:=g3;exact#[λb=>#[λz=>(s b).mp z.2,λz=>#[ne,(s b).mpr z]],xs,h5,DUs.nw l n (DUs.mono kk l d)]
     |_=>first|exact n.elim|cases hm
   ·rcases bT h with ⟨_,rfl,_⟩|⟨ne,h⟩
    ·rfl
    ·exact o1.nb j m h
  have kb:∀b x,¬(B b∨b=q)->Hf b=some x->¬B b/\Hf b=some x:=λb x n h=>#[λz=>n (.inl z),h];refine j.rt (fW fw) ?_ hs.2;match s,r,hs.1 with
  |.sh u,r,n=>exact DU.nw u n (DU.mono kb u r)
  |.ow l,⟨p',ys,e1,e2,e3,e4⟩,n=>exact#[p',ys,e1,back p' e2,e3,DUs.nw l n (DUs.mono (λb x n h=>#[λz=>n (z.elim (λz=> .inl (.inl z)) .inr),h]) l e4)]
 ·exact h.elim⟩
section
open PySem.Builtin.Dict
variable {prog:An}{w:Bh}{A:Cm}{E:#v[5]}{s:Shared}{K:Type} [DecidableEq K]{knd:Iq prog w K}
theorem aOy{α β:Type} [DecidableEq β]{f:α->β}{c:β}:∀{l:List α},(l.map f).Nodup->(l.filter λy=>f y==c).length<=1
 | [],_=>Bp _
 |a::l,h=>by
  rw[Bj,Dx]at h;by_cases e:f a=c
  ·rw[Js (by simpa using e),Ao,Tv.mpr λy hy z=>h.1 (Aj.mpr #[y,hy,by rw[e];simpa using z])];exact Ak _
  ·rw[Jt (by simpa using e)];exact aOy h.2
def aF3{id:String}{d:Addr}{xs:List (K×Addr×Value)}{o:Obj}{es ep}{Q:Array Ky->Shared->Prop}(ho:s.heap.get? d=some o)(hd:o.data=.dict es ep)(he:es.toList=xs.map (Oo knd))(hq:∀x∈xs,∃ob,s.heap.get? x.2.1=some ob/\ob.cls=.type "tuple")(hn:(xs.map λx=>knd.hash x.1).Nodup)(h:Q es s):
  Bb #v[b] A (entriesForEmpty id d) Q E s:=by
 unfold entriesForEmpty;refine Aa (Em ho hd (Aa ?_));rw[<-Gf];refine Fz _ (λrest _ s'=>s'=s/\∀e∈rest,e∈es.toList) _ ?_ ?_ _ _ #[rfl,λe he=>he]
 ·rintro e rest _ s' ⟨rfl,hr⟩;obtain⟨x,hx,rfl⟩:=Aj.mp (by rw[<-he];exact hr e Ah);obtain⟨ob,g1,g2⟩:=hq x hx;have q:∀{Q':Bool->Shared->Prop},Q' false s'->Bb #v[b] A (quietEq (Oo knd x).key) Q' E s':=λ{Q'} h=>by
   show Bb _ _ (specialOf (.ref x.2.1) "__eq__">>=_) _ _ _;refine Aa (Ex #[ob,g1,g2] PySem.F.slot_tuple_eq.lookup (Ac ?_));exact h
  refine Aa (q ?_);rw[Ab1 (by rfl),Ab0]
  ·exact Ac #[rfl,λe he=>hr e (Af _ he)]
  ·rw[<-Az,Array.toList_filter,he,List.filter_map,Ab];have:=aOy (f:=λy:K×Addr×Value=>knd.hash y.1) (c:=knd.hash x.1) hn;exact Nat.not_lt.mpr this
 ·rintro _ s' ⟨rfl,_⟩;exact Ac h
def aAm{d:Addr}{xs:List (K×Addr×Value)}{Q:#v[5]}(lo:(d==Gs)=false)(hm:s.heap.DictOfH knd d xs)(hq:∀x∈xs,∃ob,s.heap.get? x.2.1=some ob/\ob.cls=.type "tuple")(hn:(xs.map λx=>knd.hash x.1).Nodup)(hz:xs.length<=sizeLine)
  (h:∀h' o es ep,h'.get? #v[0]=some o->o.ExactDict->o.data=.dict es ep->es.toList=xs.map (Oo knd)->(∀b o,s.heap.get? b=some o->h'.get? b=some o)->Q (.ref #v[0]) {s with heap:=h'}):
  Bb #v[b] A (call (.type "dict") [.ref d]) Q E s:=by
 obtain⟨o,es,ep,h1,h2,h3,h4,h5,h6⟩:=id hm;have lt:d<#v[0]:=Aw h1;refine Uh (Q₁:=λobj s₁=>obj=.ref #v[0]/\s₁={s with heap:=s.heap.push #v[7]}) Zl (Wm _) Yj (Aaw _ #[rfl,rfl]) ?_;rintro obj s₁ ⟨rfl,rfl⟩;have hnew:(s.heap.push #v[7]).DictOfH knd #v[0] []:=Sk s.heap;have kp:∀b o,s.heap.get? b=some o->(s.heap.push #v[7]).get? b=some o:=λb o e=>Ae _ e;have g1:=kp d o h1;have hT:Lx {s with heap:=s.heap.push #v[7]} (.ref d) "dict":=#[_,g1,h2.1];have n1:(s.heap.push #v[7]).get? #v[0]=some #v[7]:=Au _ rfl;refine#[hnew.typeIs,Xu _ _,?_];unfold Builtin.«dict.__init__»;refine Aa ?_;unfold Pd;refine Aa (Jd hnew.typeIs ?_);show Bb _ _ (pure (#v[0],[As d])) _ _ _;refine Ac ?_;show Bb _ _ (Ja "dict.__init__" #v[0] (.ref d) [] .none) _ _ _;unfold Ja;refine Aa (Jb hT ?_);rw[Ab0 (by simp)];generalize hH:s.heap.push #v[7]=H1 at*;unfold Abj Abf;refine Aa (Aa (Aa (Ez hT PySem.F.sub_dict_dict ?_)));rw[Ab0 (by simp)];refine Aa (Ex hT PySem.F.slot_dict_iter.lookup (Ac ?_));rw[Ab1 (by rfl)];refine Aa (Ac ?_);unfold Abi showsAll;rw[Ab0 (by simpa using λz:#v[0]=d=>Ej d (z▸lt)),lo];refine Aa (Ac (Aa (Em g1 h3 ?_)));dsimp only;cases xs with
 |nil=>
  obtain rfl:es= (List.toArray []):=Wq.mp h4;rw[Ab0 (by simp)];refine Aa (Je g1 h3 (Aa (Em g1 h3 ?_)));rw[Xm];exact Aa (Ac (Ac (Aa (Ac (Ac #[rfl,h _ _ _ _ n1 #[rfl,rfl,rfl] rfl rfl kp])))))
 |cons x xs=>
  have al:(es.all λe=>(keyPart e.key).isSome)=false:=by
   rw[<-Array.all_toList,h4];rfl
  rw[al,Ji,Ab1 (by rfl)];refine Aa (Em n1 rfl ?_);rw[Ab1 (by rfl)];refine Aa (aF3 g1 h3 h4 (λx hx=>let⟨ob,a,b⟩:=hq x hx;#[ob,kp _ _ a,b]) hn ?_);have ne:es.isEmpty=false:=by
   have:0<es.size:=by rw[<-Az,h4];exact Nat.zero_lt_succ _
   simp[Array.isEmpty];intro z;rw[z]at this;cases this
  rw[ne,Ab1 (by rfl)];have sz:es.size<=sizeLine+1:=by rw[<-Az,h4,Ab];lia
  refine Aa (wpAny_updateDictKeysTo n1 rfl (Ac (Aa (Ac (Ac #[rfl,?_])))) sz);have u1:=Bt (Obj.mapDictKeys λ_=>es) n1 (Obj.isFreed_of_dict (Ve rfl _));refine h _ _ _ _ u1 ((show Obj.ExactDict #v[7]from#[rfl,rfl,rfl]).mapDictKeys _) (Ve rfl _) h4 λb o e=>?_;rw[Cp _ _ (λz=>by rw[<-z]at e;exact Ej _ (Aw e))];exact kp b o e
end
section
open PySem.Builtin.Dict
variable {X:Cx}{P:An}{w:Bh}
def aIg(hc:X.calm=true):dR X (.type "dict") (λxs H Q=>∃a ps,xs=[V.ref a]/\H a=some (.ext (dY X.prog X.w a ps))/\(∀x∈ps,PKy H (x.1,x.2.1))/\(ps.map λx=>(cX (Et X.prog X.w)).hash x.1).Nodup/\ps.length<=sizeLine/\∀l,H l=none->Q (.ref l) (upd H l (.ext (dY X.prog X.w l ps)))):=by
 intro aa s σ H xs us Q I r h;obtain⟨a,ps,rfl,h1,h2,hn,hz,q⟩:=h;obtain⟨u,rfl,ru⟩:=vals1 r;cases ru;obtain⟨lo,dd⟩:=aTr I.hok h1 h2;have nd:=dd;obtain⟨_,_,_,_,_,_,_,h5,h6⟩:=nd;refine aAm lo dd (λx hx=>?_) hn hz λh' o es ep g1 g2 g3 g4 kp=>?_
 ·obtain⟨o,v,b,n,e1,e2,_⟩:=h5 x hx;exact#[o,e1,e2]
 ·have hp:dY X.prog X.w #v[0] ps h':=#[beq_eq_false_iff_ne.mpr (Dc (Bc I.big)),o,es,ep,g1,g2,g3,g4,h6];have ok:bO X.prog X.w (upd H #v[0] (.ext (dY X.prog X.w #v[0] ps))) h' #v[0] (.ext (dY X.prog X.w #v[0] ps)):=#[hp,#[o,g1],λh1 h2 p k=>dY.stay h1 h2 p k];exact#[.ref #v[0],_,I.laid (a:=#v[0]) (o:=.ext (dY X.prog X.w #v[0] ps)) (t':=s.toks) kp (Ak _) ok,rfl,q _ (I.hok.fresh (Ak _))]
def aYr(P:An)(w:Bh)(F:TV):TV:=λρ R=>F ρ λs=>∃kvs,aL9 P w s kvs/\((kvs.map (·.1)).map (cX (Et P w)).hash).Nodup/\kvs.length<=10000/\R (.oo (pdO P w kvs))
def aR0{a:Cr}{p pos:Pos}{F:TV}(hP:X.prog=P)(hw:X.w=w)(hc:X.calm=true)(hm:X.mg "dict"=none)(ha:VE X a F)(hg:Gl X "dict":=by rfl)(hs:SE X a []:=by rfl)(hpl:BT X pos []:=by rfl):VE X (.Call (.Name "dict" p) [a] [] pos) (aYr P w F):=by
 subst hP hw;obtain⟨_,p,f⟩:=ha;refine#[_,gJ (aIg hc) hg hm boot_dict (bZ p dN hs) ⋯ ⋯ hs hpl,λ{W B ρ σ H R Q} e h q=>f e h λs v H1 h1 w1 r1=>?_];obtain⟨kvs,hs,hn,hl,h2⟩:=h1;obtain⟨a,xs,rfl,g1,g2⟩:=r1.pd hs;have e1:=e.to w1;refine#[a,xs,rfl,g1,λx hx=>aYn (g2.keys.2 x hx),by rw[<-g2.keys.1,Ba]at hn;exact hn,by rw[g2.len];exact Dd hl ⋯,λl nl=>q _ _ _ h2 (w1.trans (e1.eb.new nl)) (RO.back (s:=.oo _) w1 #[l,(·=l),rfl,λb hb=>by rw[hb];exact nl,λ_=>Mo,xs,aP,g2.mono λb o nb h=>?_])];exact#[λz=>z.elim nb (aR h nl),(e1.eb.keep (e1.eb.new nl) b o nb h).2]
end
def NdR(W B:Addr->Prop)(H:Hp)(f:Int->Option U)(kvs:List (Key×V)):Prop:=∀i:Int,(f i=none/\lO kvs (.inl i)=none)∨∃u v,f i=some u/\lO kvs (.inl i)=some v/\DU W B H u v
def NdK(kvs:List (Key×V)):Prop:=(kvs.map (·.1)).Nodup/\∀p∈kvs,∃i:Int,p.1=.inl i
def ndO(f:Int->Option U)(n:Nat):Own:=⟨λW B S H p=>(∀b,S b↔b=p)/\∃kvs,H p=some (.dK kvs)/\(kvs.length<=n/\NdK kvs)/\NdR W B H f kvs,
 λk e ⟨s,kvs,h,l,r⟩=>#[s,kvs,(e _ ((s _).mpr rfl)).trans h,l,λi=>(r i).imp id λ⟨u,v,a,b,d⟩=>#[u,v,a,b,DU.mono k u d]],λk ⟨s,kvs,h,l,r⟩=>#[s,kvs,h,l,λi=>(r i).imp id λ⟨u,v,a,b,d⟩=>#[u,v,a,b,DU.wm k u d]],
 λ⟨s,_,h,_⟩ b hb=>by rw[(s b).mp hb];exact#[_,h,trivial]⟩
def NdK.put{i:Int}(h:NdK kvs):NdK (putK kvs (.inl i) v):=by
 unfold putK;split
 ·refine#[?_,λp hp=>?_]
  ·rw[Ba,show(Prod.fst∘λkv:Key×V=>if kv.1=.inl i then(kv.1,v)else kv)=Prod.fst from funext λx=>by simp only[Function.comp];split<;>rfl];exact h.1
  ·obtain⟨q,hq,rfl⟩:=Aj.mp hp;obtain⟨k,e⟩:=h.2 q hq;refine#[k,?_];show(if q.1=.inl i then(q.1,v)else q).1=_;split<;>exact e
 ·rename_i no;refine#[?_,λp hp=>(Bd.mp hp).elim (h.2 p) λhp=>#[i,by rw[Ap.mp hp]]];rw[Co,Ei];refine#[h.1,by simp,λa ha b hb e=>no ?_];obtain⟨q,hq,rfl⟩:=Aj.mp ha;have hb:b=.inl i:=by simpa using hb
  exact Xe.mpr #[q,hq,Ab5 (e.trans hb)]
def bB2:TV:=λ_ R=>R (.oo (ndO (λ_=>none) 0))
def bB4(j:Nat)(Fk Fv:TV):TVS:=λE ρ=>Fv ρ λs=>s.es λu=>∃f n,ρ[j]? =some (.oo (ndO f n))/\n<10000/\Fk ρ λs'=>∃i,s'.rd=.n i/\E.nx (ρ.set j (.oo (ndO (λz=>if z=i then some u else f z) (n+1))))
def aUt{pos:Pos}:VE X (.Dict [] [] pos) bB2:=#[_,aQn,λ{W B ρ σ H R Q} e h q p n=>q _ _ _ h (e.eb.new n) #[p,(·=p),rfl,λb hb=>by rw[hb];exact n,λ_=>Mo,[],aP,#[Ak _,Ht,nofun],λ_=> .inl #[rfl,rfl]]]
def aUv{x:Str}{i value:Cr}{pos pos' p':Pos}{Fk Fv:TV}(j:Nat)(hr:eZ k X.A)(hk:VE X i Fk)(hv:VE X value Fv)(hN:X.N[j]? =some x:=by rfl)(hvs:Vis X.env.scope x:=by trivial)(hd:ND x:=by decide)
  (hcd:NC x:=by decide) (hs:Fe value (some (.Subscript (.Name x p') i pos')) pos.line X.env=pure false:=by rfl):VS X (.Assign [.Subscript (.Name x p') i pos'] value pos) (bB4 j Fk Fv):=by
 obtain⟨_,p1,f1⟩:=hk;obtain⟨_,p2,f2⟩:=hv;refine#[_,aT4 (by have:=hr.un;lia) (pF hN hvs hd hcd) p1 p2 hs,λ{W B H0 A ρ σ H E D} o h jj=>f2 o.ee h λsv v H1 h1 w1 r1=>?_];obtain⟨u,⟨f,n,hj,hl,h2⟩,dv⟩:=r1.du o.ee.eb h1;have o1:=o.to w1;obtain⟨q,g1,g2,_⟩:=o1.hd j _ _ hj rfl;refine#[_,g1,f1 o1.ee h2 λsk y H3 h3 w3 r3=>?_];obtain⟨i,ei,h4⟩:=h3;have o3:=o1.to w3;obtain⟨q',g4,_,kvs,g5,g6,g7⟩:=o3.hd j _ _ hj rfl;rw[g1]at g4;cases g4;have d:=r3.db o1.ee.eb;rw[ei]at d;obtain rfl:y=.int i:=d.elim (λd=>d.1) λ⟨_,_,_,e1,_⟩=>nomatch e1
 refine#[q,_,rfl,aNo.k (k:=.inl i) g5 (Nat.lt_of_le_of_lt g6.1 (Nk hl ⋯)),jj.nx (o3.chg g1 ((g2 q).mpr rfl) (s':=.oo (ndO (λz=>if z=i then some u else f z) (n+1))) rfl rfl #[g2,_,aP,#[Dd (sW ..) (by have:=g6.1;lia),g6.2.put],λz=>?_]) h4];have kk:∀b y,¬Bx B A b->H3 b=some y->¬Bx B A b/\upd H3 q (.dK (putK kvs (.inl i) v)) b=some y:=λb y n h=>#[n,(aN (λz:b=q=>n (by rw[z];exact .inr #[j,(g2 q).mpr rfl]))).trans h];show((if z=i then some u else f z)=none/\_)∨∃u_1 v_1,(if z=i then some u else f z)=some u_1/\_;rw[aRw];by_cases e:z=i
 ·subst e;exact .inr #[u,v,Ab1 rfl,Ab1 rfl,DU.mono kk u (DU.mono (o1.ee.eb.keep w3) u dv)]
 ·rw[Ab0 e,Ab0 λh=>e (Yc h)];exact(g7 z).imp id λ⟨u,v,a,b,d⟩=>#[u,v,a,b,DU.mono kk u d]
inductive aLk(H:Hp):List V->List (Tke×Addr×V)->Prop
 |nil:aLk H [] []
 |cons {vs:List V} {r:List (Tke×Addr×V)} {k:Tke} {c p:Addr} {v:V}:H p=some (.tup [.ref c,v])->PKy H (k,c)->aLk H vs r->aLk H (.ref p::vs) ((k,c,v)::r)
inductive aLj:List (Tke×Addr×V)->#v[11]->Prop
 |nil:aLj [] []
 |cons {k:Tke} {c:Addr} {v:V} {x:Value} {r:List (Tke×Addr×V)} {s:#v[11]}:RelV v x->aLj r s->aLj ((k,c,v)::r) ((k,c,x)::s)
def aNh{P:An}{w:Bh}{H:Hp}{h:Heap}(hok:HOk P w H h)(t:aLk H vs zs)(rv:Vals vs ab):
  ∃ws,aLj zs ws/\ws.map (·.1)=zs.map (·.1)/\ws.length=ab.length/\(∀x∈ws,PKy H (x.1,x.2.1))/\∀(i:Nat)(v:Value),ab[i]? =some v->∃x p,ws[i]? =some x/\v=.ref p/\h.TwoAt p (.ref x.2.1) x.2.2:=by
 induction t generalizing ab with
 |nil=>
  cases rv;exact#[[],.nil,rfl,rfl,nofun,λi v e=>by simp at e]
 |@cons vs r k c p v e1 e2 t ih=>
  cases rv with
  |@cons _ u _ _ ru rs=>
   obtain⟨ws,h1,h5,h2,h4,h3⟩:=ih rs;obtain rfl:u=As p:=ru;obtain⟨_,ab,ri,o,g1,g2,n,g3⟩:=(show bO P w H h p (.tup [.ref c,v])from hok p _ e1);obtain⟨v1,v2,rfl,r1,r2⟩:=vals2 ri;obtain rfl:v1=As c:=r1;refine#[(k,c,v2)::ws,.cons r2 h1,Ab9 (k::·) h5,Ab9 (·+1) h2,λx hx=>(Ax.mp hx).elim (λz=>z▸e2) (h4 x),λi v e=>?_];cases i with
   |zero=>
    obtain rfl:As p=v:=by simpa using e
    exact#[_,p,rfl,rfl,o,n,g1,g2,g3]
   |succ i=>exact h3 i v (by simpa using e)
def aUl{W B:Addr->Prop}{H:Hp}{kvs:List (Tke×U)}(d:DUs W B H (kvs.map λp=>U.tp [tkU p.1,p.2]) vs):∃zs,aLk H vs zs/\zs.map (·.1)=kvs.map (·.1)/\∀ws,aLj zs ws->PdR W B H kvs ws:=by
 induction kvs generalizing vs with
 |nil=>
  obtain rfl:vs=[]:=d;exact#[[],.nil,rfl,λws h=>by cases h;exact .nil]
 |cons k ks ih=>
  obtain⟨v,r,rfl,d,t⟩:=d;obtain⟨zs,h1,h2,h3⟩:=ih t;obtain⟨p,ys,rfl,nb,hp,y1,_,rfl,d1,y2,r2,rfl,d2,e3⟩:=d;obtain rfl:r2=[]:=e3;obtain⟨b,rfl,kb⟩:=aRn d1;exact#[(k.1,b,y2)::zs,.cons hp kb h1,by rw[Bj,Bj,h2],λws h=>by cases h with|cons rv t=>exact .cons d1 rv d2 (h3 _ t)]
inductive aKb(P:An)(w:Bh)(xs:List V)(H:Hp)(Q:VK):Prop
 |mk (l vs zs:_) (q0_:xs=[.ref l]) (q1_:H l=some (.lst vs)) (q2_:aLk H vs zs) (q3_:(zs.map (·.1)).Nodup) (q4_:∀ws,aLj zs ws->∀d,H d=none->Q (.ref d) (upd H d (.ext (dY P w d ws)))):aKb P w xs H Q
def aX7(P:An)(w:Bh):List V->Hp->VK->Prop:=λxs H Q=>aKb P w xs H Q
def aIh{X:Cx}(hc:X.calm=true)(hu:X.A.units+4<cLine):dR X (.type "dict") (aX7 X.prog X.w):=by
 intro aa s σ H xs us Q I r h;obtain⟨l,vs,zs,rfl,hl,hp,nd,q⟩:=h;obtain⟨u,rfl,ru⟩:=vals1 r;obtain rfl:u=As l:=ru;obtain⟨z,ab,n,rv,hg⟩:=(show bO X.prog X.w H s.heap l (.lst vs)from I.hok l _ hl);obtain⟨ws,h0,h5,h2,h1,h3⟩:=aNh I.hok hp rv;have lz:ab.length<=sizeLine:=by rw[<-rv.length];exact z
 refine zE (knd:=cX (Et X.prog X.w)) (I.ok.hd hc) hg (show X.A.in1.in1.units+1<cLine by show X.A.units+1+1+1<cLine;lia) (λh' x a e k=>aTo e k) ws (by rw[h2,Al]) (by rw[Al];exact lz) (λx hx=>zT I.hok (h1 x hx)) (λi v e=>h3 i v (by simpa using e)) λh' tk hd hk'=>?_;rw[aHd _ ws rfl (by rw[h5];exact nd)]at hd;obtain⟨o,es,ep,g1,g2,g3,g4,g5⟩:=hd;have hpo:dY X.prog X.w #v[0] ws h':=#[beq_eq_false_iff_ne.mpr (Dc (Bc I.big)),o,es,ep,g1,g2,g3,g4,g5];have ok:bO X.prog X.w (upd H #v[0] (.ext (dY X.prog X.w #v[0] ws))) h' #v[0] (.ext (dY X.prog X.w #v[0] ws)):=#[hpo,#[o,g1],λa b p k=>dY.stay a b p k];exact#[.ref #v[0],_,I.laid (a:=#v[0]) (o:=.ext (dY X.prog X.w #v[0] ws)) (t':=tk) hk' (Ak _) ok,rfl,q _ h0 _ (I.hok.fresh (Ak _))]
def bDc(P:An)(w:Bh)(F:TV):TV:=λρ R=>F ρ λs=>∃kvs:List (Tke×U),s.rd=.ls (kvs.map λp=> .tp [tkU p.1,p.2])/\(kvs.map (·.1)).Nodup/\R (.oo (pdO P w kvs))
def aY5{X:Cx}{P:An}{w:Bh}{a:Cr}{p pos:Pos}{F:TV}(hP:X.prog=P)(hw:X.w=w)(hr:eZ k X.A)(hc:X.calm=true)(hm:X.mg "dict"=none)(ha:VE X a F)(hg:Gl X "dict":=by rfl)(hs:SE X a []:=by rfl)(hpl:BT X pos []:=by rfl):VE X (.Call (.Name "dict" p) [a] [] pos) (bDc P w F):=by
 subst hP hw;obtain⟨_,p,f⟩:=ha;refine#[_,gJ (aIh hc (by have:=hr.un;lia)) hg hm boot_dict (bZ p dN hs) ⋯ ⋯ hs hpl,λ{W B ρ σ H R Q} e h q=>f e h λs v H1 h1 w1 r1=>?_];obtain⟨kvs,es,nd,h2⟩:=h1;have e1:=e.to w1;have d:=r1.db e.eb;rw[es]at d;obtain⟨p,xs,rfl,hp,ds⟩:∃p xs,v=.ref p/\H1 p=some (.lst xs)/\DUs W B H1 (kvs.map λp=>U.tp [tkU p.1,p.2]) xs:=d.elim (λ⟨p,xs,a,_,b,c⟩=>#[p,xs,a,b,c]) λ⟨l',p,xs,e1,a,_,b,c⟩=>by cases e1;exact#[p,xs,a,b,c]
 obtain⟨zs,t1,t2,t3⟩:=aUl ds;exact#[p,xs,zs,rfl,hp,t1,by rw[t2];exact nd,λws rw l nl=>q _ _ _ h2 (w1.trans (e1.eb.new nl)) (RO.back (s:=.oo _) w1 #[l,(·=l),rfl,λb hb=>by rw[hb];exact nl,λ_=>Mo,ws,aP,(t3 ws rw).mono λb o nb h=>#[λz=>z.elim nb (aR h nl),(e1.eb.keep (e1.eb.new nl) b o nb h).2]])]
variable {s:Shared}
open Classical in
inductive aNs(us:List U)(R:(Sl->Prop)):Prop
 |mk (ns:List Int) (q0_:us=[.ls #v[x]]) (q1_:ns.length<64) (q2_:∀ms:List Int,ms.Perm ns->ms.Pairwise (·<=·)->R (.ow (ms.map U.n))):aNs us R
def bAd:List U->(Sl->Prop)->Prop:=λus R=>aNs us R
def aKj{K:Ad}:CB (aK7 K) bAd:=λ{W B H us vs R Q} e d ⟨ns,eu,hl,h⟩ q=>by
 subst eu;obtain⟨x,rfl,dd⟩:=DBs.one d;obtain⟨p,xs,rfl,_,hp,ds⟩:=dd.ls e;rw[ds.ints]at hp;refine#[p,ns,rfl,SqL.of hp,hl,λms h1 h2 r n=>?_];have f:=e.new (o:=.lst (ms.map V.int)) n;exact q _ _ _ (h ms h1 h2) f #[r,_,rfl,n,aP,DUs.mapInts]
def vLr(F:TVa):TV:=λρ R=>F ρ λus=>∃n:Nat,us=[.n (n:Int)]/\n<=1000/\R (.ow (gU 0 n))
def bB9{X:Cx}{a:Cr}{F:TVa}{p p' pos pos':Pos}(hc:X.calm=true)(h1:X.mg "list"=none)(h2:X.mg "range"=none)(ha:VB X [a] F)(g1:Gl X "list":=by rfl)(g2:Gl X "range":=by rfl)(hs:SE X a []:=by rfl)(hpl:BT X pos' []:=by rfl)
  (hs':Ca [.Call (.Name "range" p') [a] [] pos'] X.env=(false,eval (.Call (.Name "range" p') [a] [] pos') X.env)::Ca [] X.env:=by rfl) (hpl':BT X pos []:=by rfl):VE X (.Call (.Name "list" p) [.Call (.Name "range" p') [a] [] pos'] [] pos) (vLr F):=
 let⟨_,q,f⟩:=ha;⟨_,gJ (aIj hc) g1 h1 Gh (bZ (gJ aFx g2 h2 Aab q ⋯ ⋯ hs hpl) dN hs') ⋯ ⋯ hs' hpl',λ{W B ρ σ H R Q} e h q=>f e h λus vs H1 ⟨n,eu,xl,h1⟩ w1 d=>by
  subst eu;have e1:=e.to w1;obtain⟨x,rfl,dd⟩:=DBs.one d;obtain⟨rfl,_⟩:=dd.fl;refine#[n,rfl,λr nr=>#[r,n,rfl,aP,xl,λl nl=>?_]];have w2:=e1.eb.new (o:=.rng 0 n) nr;have w3:=(e1.eb.to w2).new (o:=.lst ((Bq n).map λk:Nat=>V.int (k:Int))) nl;have hn:H1 l=none:=by
   refine Option.eq_none_iff_forall_ne_some.mpr λo ho=>?_;have:=(aN (aR ho nr):upd H1 r (.rng 0 n) l=H1 l);rw[this,ho]at nl;cases nl
  refine q _ _ _ h1 ((w1.trans w2).trans w3) #[l,_,rfl,w1.none_ hn,aP,?_];have:=DUs.mapInts (W:=W) (B:=λb=>B b∨b=l) (H:=upd (upd H1 r (.rng 0 n)) l (.lst ((Bq n).map λk:Nat=>V.int (k:Int)))) (ns:=(Bq n).map λk:Nat=>(k:Int));unfold gU;simpa[Ba,Ub]using this⟩
inductive LlR(W B:Addr->Prop)(H:Hp):List (List U)->List Addr->Prop
 |nil:LlR W B H [] []
 |cons {l:List U} {ls:List (List U)} {q:Addr} {qs:List Addr} {vs:List V}:H q=some (.lst vs)->DUs W B H l vs->LlR W B H ls qs->LlR W B H (l::ls) (q::qs)
section
variable {W W' B B':Addr->Prop}{H H':Hp}{ls:List (List U)}{qs:List Addr}
def LlR.mono(k:∀b o,¬B b->H b=some o->¬B' b/\H' b=some o)(e:∀b∈qs,H' b=H b)(h:LlR W B H ls qs):LlR W B' H' ls qs:=by
 induction h with
 |nil=>exact .nil
 |cons h d t ih=>exact .cons ((e _ Ah).trans h) (DUs.mono k _ d) (ih λb hb=>e b (Af _ hb))
def LlR.wm(k:∀p,W p->W' p)(h:LlR W B H ls qs):LlR W' B H ls qs:=by
 induction h with
 |nil=>exact .nil
 |cons h d t ih=>exact .cons h (DUs.wm k _ d) ih
def LlR.th(h:LlR W B H ls qs)(b:Addr)(hb:b∈qs):∃vs,H b=some (.lst vs):=by
 induction h with
 |nil=>cases hb
 |cons h d t ih=>
  rcases Ax.mp hb with rfl|z
  ·exact#[_,h]
  ·exact ih z
def LlR.at_{i:Nat}{l:List U}(h:LlR W B H ls qs)(hi:ls[i]? =some l):∃q vs,qs[i]? =some q/\H q=some (.lst vs)/\DUs W B H l vs:=by
 induction h generalizing i with
 |nil=>simp at hi
 |cons h d t ih=>
  cases i with
  |zero=>cases hi;exact#[_,_,rfl,h,d]
  |succ i=>exact ih hi
def LlR.len(h:LlR W B H ls qs):ls.length=qs.length:=by
 induction h with
 |nil=>rfl
 |cons _ _ _ ih=>exact Ab9 (·+1) ih
def LlR.put{i:Nat}(hq:B q)(h:LlR W B H ls qs)(nd:qs.Nodup)(hi:qs[i]? =some q)(d:DUs W B H l' vs'):LlR W B (upd H q (.lst vs')) (ls.set i l') qs:=by
 have kk:∀b o,¬B b->H b=some o->¬B b/\upd H q (.lst vs') b=some o:=λb o n h=>#[n,(aN (λz:b=q=>n (z▸hq))).trans h];induction h generalizing i with
 |nil=>simp at hi
 |@cons l ls q' qs vs h dl t ih=>
  rw[Dx]at nd;cases i with
  |zero=>
   have e:q'=q:=by simpa using hi
   subst e;exact .cons aP (DUs.mono kk _ d) (t.mono kk λb hb=>aN λz=>nd.1 (z▸hb))
  |succ i=>
   have hi:qs[i]? =some q:=by simpa using hi
   exact .cons ((aN λz:q'=q=>nd.1 (by rw[z];exact Ai hi)).trans h) (DUs.mono kk _ dl) (ih nd.2 hi)
def LlR.dus(n:∀b∈qs,¬B b)(h:LlR W B H ls qs):DUs W B H (ls.map .ls) (qs.map .ref):=by
 induction h with
 |nil=>rfl
 |cons h d t ih=>exact#[_,_,rfl,#[_,_,rfl,n _ Ah,h,d],ih λb hb=>n b (Af _ hb)]
end
def llO(ls:List (List U)):Own:=⟨λW B S H p=>∃qs:List Addr,(∀b,S b↔b=p∨b∈qs)/\p∉qs/\qs.Nodup/\H p=some (.lst (qs.map V.ref))/\LlR W B H ls qs,
 λk e ⟨qs,s,n,nd,h,r⟩=>#[qs,s,n,nd,(e _ ((s _).mpr (.inl rfl))).trans h,r.mono k λb hb=>e b ((s b).mpr (.inr hb))],λk ⟨qs,s,n,nd,h,r⟩=>#[qs,s,n,nd,h,r.wm k],
 λ⟨qs,s,n,nd,h,r⟩ b hb=>((s b).mp hb).elim (λz=>by rw[z];exact#[_,h,trivial]) λz=>let⟨vs,g⟩:=r.th b z;#[_,g,trivial]⟩
def aZ3{W B S:Addr->Prop}{H:Hp}(n:∀b,S b->¬B b)(h:(llO ls).φ W B S H p):DU W B H (.ls (ls.map .ls)) (.ref p):=
 let⟨qs,s,_,_,h,r⟩:=h;#[p,_,rfl,n p ((s p).mpr (.inl rfl)),h,r.dus λb hb=>n b ((s b).mpr (.inr hb))]
def bDd(i:Nat)(G:TVS):TVS:=λE ρ=>∃ls,ρ[i]? =some (.oo (llO ls))/\G E (ρ.set i (.sh (.ls (ls.map .ls))))
def aYx(j:Nat)(Fk F:TV):TVS:=λE ρ=>∃ls,ρ[j]? =some (.oo (llO ls))/\Fk ρ λsk=>∃(i:Int)(n:Nat)(l:List U),sk.rd=.n i/\ixN ls.length i=some n/\ls[n]? =some l/\l.length<10000/\F ρ λs=>s.es λu=>E.nx (ρ.set j (.oo (llO (ls.set n (l++[u])))))
def bBw(j:Nat)(Fk Fv:TV):TVS:=λE ρ=>Fv ρ λs=>s.es λu=>match (ρ[j]? :Option Sl)with
 |some (.ow l)=>Fk ρ λs'=>∃(i:Int)(n:Nat),s'.rd=.n i/\ixN l.length i=some n/\E.nx (ρ.set j (.ow (l.set n u)))
 |_=>False
def vLl(Fi:TVa):TV:=λρ R=>Fi ρ λl=>l.length<=10000/\R (.oo (llO (l.map λ_=>[])))
def DUs.setN{W B:Addr->Prop}{H:Hp}(d:DU W B H u v):∀{l:List U}{xs:List V}(n:Nat),DUs W B H l xs->DUs W B H (l.set n u) (xs.set n v)
 | [],_,_,h=>by rw[show _=[]from h];exact rfl
 |_::_,_,0,⟨x,r,e,_,t⟩=>by rw[e];exact#[v,r,rfl,d,t]
 |_::_,_,n+1,⟨x,r,e,h,t⟩=>by rw[e];exact#[x,_,rfl,h,DUs.setN d n t]
def aKx{n k:Nat}{i:Int}{α:Type}{xs:List α}{x:α}(hn:xs.length=n)(h:ixN n i=some k)(hx:xs[k]? =some x):atI xs i=some x:=by
 unfold atI;rw[hn,h];exact hx
def aE8{st:List Stmt}{G:TVS}(i:Nat)(h:VSs X st G):VSs X st (bDd i G):=let⟨_,p,f⟩:=h;#[_,p,λo h j=>let⟨_,hi,h⟩:=h;f (o.frz hi rfl aZ3) h j]
def bBt(a:TV):TV:=λρ R=>a ρ λs=>∃ls,s=.bo (llO ls)/\R (.sh (.n ls.length))
def aUo{o:Cr}{p pos:Pos}{F:TV}(hm:X.mg "len"=none)(ha:VE X o F)(hg:Gl X "len":=by rfl)(hs:SE X o []:=by rfl)(hpl:BT X pos []:=by rfl):VE X (.Call (.Name "len" p) [o] [] pos) (bBt F):=by
 obtain⟨_,p,f⟩:=ha;refine#[_,iI aK hg hm Cf (bZ p dN hs) ⋯ ⋯ hs hpl,λ{W B ρ σ H R Q} e h q=>f e h λs v H1 h1 w1 r1=>?_];obtain⟨ls,rfl,h3⟩:=h1;obtain⟨a,S,rfl,nw,qs,gs,gp,gn,gx,gr⟩:=r1;refine#[a,_,rfl,.inl (SqL.of gx),q _ _ _ h3 w1 ?_];rw[Ab,gr.len];exact#[rfl,rfl]
def aHr{x:Str}{i a:Cr}{p' sp apos cpos pos:Pos}{Fk F:TV}(j:Nat)(hk:VE X i Fk)(ha:VE X a F)(hN:X.N[j]? =some x:=by rfl)(hv:Vis X.env.scope x:=by trivial)(hd:ND x:=by decide)
  (hcd:NC x:=by decide) (hn:zM i:=by exactλ_ _=>rfl)
  (hbase:He (.Subscript (.Name x p') i sp) "append" X.env (eval (.Subscript (.Name x p') i sp) X.env)=eval (.Subscript (.Name x p') i sp) X.env:=by rfl)
  (hfew:((Np cpos (Ca [a] X.env)).all (λx=> !x.1) && (Gx cpos (Ed [] X.env)).all (λx=>x.1.isSome)
   && decide ([a].length+([]:List Lw).length+(if([]:List Lw).isEmpty then 0 else 1)<30))=true:=by rfl)
  (hline:EL apos cpos:=by rfl) (hs:SE X a []:=by rfl) (hplain:BT X cpos []:=by rfl)
  (hsw:Fe (.Call (.Attribute (.Subscript (.Name x p') i sp) "append" apos) [a] [] cpos) none pos.line X.env=pure false:=by rfl):
  VS X (.Expr (.Call (.Attribute (.Subscript (.Name x p') i sp) "append" apos) [a] [] cpos) pos) (aYx j Fk F):=by
 obtain⟨_,p1,f1⟩:=hk;obtain⟨_,p2,f2⟩:=ha;refine#[_,qR (aK2 Jo Qo Qn xN (uL lB (pF hN hv hd hcd) p1 hn) (bZ p2 dN hs) hbase hfew hline hs hplain) hsw,λ{W B H0 A ρ σ H E D} o h jj=>?_];obtain⟨ls,hj,h⟩:=h;obtain⟨p,g1,_⟩:=o.hd j _ _ hj rfl;refine#[_,g1,f1 o.ee h λsk y H1 h1 w1 r1=>?_];obtain⟨i,n,l,ek,hi,hl,ll,h1⟩:=h1;have o1:=o.to w1;obtain⟨p',g2,qs,gs,gp,gn,gx,gr⟩:=o1.hd j _ _ hj rfl;rw[g1]at g2;cases g2;have d:=r1.db o.ee.eb;rw[ek]at d;obtain⟨q,vs,a1,a2,a3⟩:=gr.at_ hl;refine#[p,_,i,.ref q,rfl,d.int,SqL.of gx,aKx (by rw[Ab,gr.len]) hi (by rw[Bg,a1];rfl),.inl #[rfl,_,SqL.of a2],f2 o1.ee h1 λs v H2 h2 w2 r2=>?_];obtain⟨u,h3,du⟩:=r2.du o1.ee.eb h2;have o2:=o1.to w2;have ke:∀b,A j b->H2 b=H1 b:=λb hb=>let⟨y,hy,_⟩:=o1.aw j b hb;(w2.fr b y (o1.nw hb) hy).trans hy.symm;have gr2:=gr.mono (o1.ee.eb.keep w2) λb hb=>ke b ((gs b).mpr (.inr hb));have mq:=Ai a1;have Aq:A j q:=(gs q).mpr (.inr mq);have a2:=(ke q Aq).trans a2;have pq:p≠q:=λz=>gp (by rw[z];exact mq);refine#[q,vs,v,rfl,rfl,a2,?_,jj.nx (o2.chg g1 Aq (s':=.oo (llO (ls.set n (l++[u])))) rfl rfl #[qs,gs,gp,gn,(aN pq).trans ((ke p ((gs p).mpr (.inl rfl))).trans gx),gr2.put (.inr #[j,Aq]) gn a1 ((DUs.mono (o1.ee.eb.keep w2) _ a3).app (DUs.one du))]) h3];have:=a3.length;have:(10000:Nat)<=sizeLine:=by decide
 lia
def aAb{x:Str}{i value:Cr}{pos pos' p':Pos}{Fk Fv:TV}(j:Nat)(hk:VE X i Fk)(hv:VE X value Fv)(hN:X.N[j]? =some x:=by rfl)(hvs:Vis X.env.scope x:=by trivial)(hd:ND x:=by decide)
  (hcd:NC x:=by decide) (hs:Vn [.Subscript (.Name x p') i pos'] value pos.line X.env=pure false:=by rfl) (hw:Vo [.Subscript (.Name x p') i pos'] value X.env=pure none:=by rfl)
  (h1:(Ib [.Subscript (.Name x p') i pos'] X.env).map (·.2)=[assign (.Subscript (.Name x p') i pos') X.env]:=by rfl)
  (ha:∀v,assign (.Subscript (.Name x p') i pos') X.env v=(do
   let ov<-holding [v] (eval (.Name x p') X.env)
   let iv<-holding [v,ov] (eval i X.env)
   Ph pos'
   holding [v,ov,iv] (Abm ov iv v)
   release [v,ov,iv] []):=by intro _;rfl):VS X (.Assign [.Subscript (.Name x p') i pos'] value pos) (bBw j Fk Fv):=by
 obtain⟨_,p1,f1⟩:=hk
 obtain⟨_,p2,f2⟩:=hv
 refine#[_,aEq p2 (aJg (pF hN hvs hd hcd) p1 set_list ha) hs hw h1,λ{W B H0 A ρ σ H E D} o h jj=>f2 o.ee h λsv v H1 h1 w1 r1=>?_]
 obtain⟨u,h1,dv⟩:=r1.du o.ee.eb h1
 have o1:=o.to w1
 split at h1
 ·rename_i l hj
  obtain⟨q,xs,g1,g2,g3,g4⟩:=o1.ow j l hj
  refine#[_,g1,f1 o1.ee h1 λs' v' H2 h2 w2 r2=>?_]
  obtain⟨i,n,ei,hi,h3⟩:=h2
  have d:=r2.db o1.ee.eb
  rw[ei]at d
  have o2:=o1.to w2
  obtain⟨q',ys,k1,k2,k3,k4⟩:=o2.ow j l hj
  rw[g1]at k1
  cases k1
  exact#[q,ys,i,n,rfl,d.int,k3,by rw[<-k4.length];exact hi,jj.nx (o2.own g1 g2 (k4.setN (DU.mono (o1.ee.eb.keep w2) u dv) n)) h3]
 ·exact h1.elim
def Sdl(H1:Hp)(D:Addr)(H2:Hp):Prop:=∃qs:List Addr,H2 D=some (.lst (qs.map V.ref))/\qs.Nodup/\∀q∈qs,H1 q=none/\q≠D/\H2 q=some (.lst [])
def bCe{Fi:TVa}(f:aSh wi Fi)(hG:VTh 1 g (iC 0)):VT (wK 1 [] wi g (aYk aJw)) (vLl Fi):=λ{W B ρ σ H R Q} e h q=>by
 refine f e h λl J H1 h1 w wk D n1=>?_;obtain⟨kl,h2⟩:=h1;have e1:=e.to w;have nW:∀{b},H1 b=none->¬W b:=λn z=>e1.eb.nw n (e1.eb.wb _ z);refine#[λi m σ2 H2=>CW W B H1 D (uA 1 [] ρ) l (λu k=>k (some (.ls []))) (λus=>us=l.map λ_=> .ls []) i m σ2 H2/\Sdl H1 D H2,#[_,CW.beg e1 n1 (cC (h:=λu=> .ls []) (λ_ _ _ h=>h) (by rw[Bm])),[],aP,Ht,nofun],λi m σ2 H2 ⟨c,qs,s1,s2,s3⟩=>?_];have ceb:EB W (λb=>B b∨b=D) H2:=let⟨_,_,_,_,c,_⟩:=c;c.ee.eb;have fw:Fw W H1 H2:=let⟨_,_,_,_,c,_⟩:=c;c.fw;have tr:Tr B H1 (λb=>B b∨b=D) H2:=λb o nb h=>#[λz=>z.elim nb (aR h n1),(e1.eb.keep fw b o nb h).2];by_cases hlt:i<l.length
 ·refine .inr #[wk.go i tr fw hlt,λx H3 y=>?_];have w3:=(wk.yld i ceb tr fw (Ag hlt) y).1;obtain⟨u,us,e3,d3,h3,put,_⟩:=c.turn e1 n1 kl wk hlt y;refine hG e3 d3 (k:=λr=>r=(uA 1 [] ρ).set 0 (.sh u)) rfl λρ' σ' e' l' a' h'=>?_;subst h';refine#[Bp _,λq nq=>?_];have D3:H3 D=some (.lst (qs.map V.ref)):=w3.fr D _ (nW n1) s1;have qD:q≠D:=λz=>by rw[z,D3]at nq;cases nq
  have w4:Fw W H3 (upd H3 q (.lst [])):=e'.eb.new nq;have at5:∀{b o},H3 b=some o->upd H3 q (.lst []) b=some o:=λ{b o} h=>by rw[aN (aR h nq)];exact h
  have nB:¬(B q∨q=D):=λz=>e'.eb.dm _ z nq;obtain⟨ys,y1,y2,y3,y4,y5⟩:=put (.ls []) (.ref q) σ' _ h3 w4 #[q,[],rfl,nB,aP,rfl] l' a';have ey:=(at5 D3).symm.trans y1;cases ey;have H1n:H1 q=none:=by
   cases hb:H1 q with
   |none=>rfl
   |some o=>rw[w3.fr q o (λz=>by obtain⟨_,_,_,y⟩:=w3.wo q z;rw[nq]at y;cases y) (fw.fr q o (λz=>by obtain⟨_,_,_,y⟩:=w3.wo q z;rw[nq]at y;cases y) hb)]at nq;cases nq
  refine#[_,y1,y2,y3,y4,y5,qs++[q],by rw[Co];exact aP,?_,λx hx=>?_]
  ·rw[Ei];refine#[s2,by simp,λa ha b hb z=>?_];have hb:b=q:=by simpa using hb
   have:=w3.fr a _ (nW (s3 a ha).1) (s3 a ha).2.2;rw[z,hb,nq]at this;cases this
  ·rcases Bd.mp hx with hx|hx
   ·obtain⟨b1,b2,b3⟩:=s3 x hx;exact#[b1,b2,(aN b2).trans (at5 (w3.fr _ _ (nW b1) b3))]
   ·have hx:x=q:=by simpa using hx
    subst hx;exact#[H1n,qD,(aN qD).trans aP]
 ·refine .inl #[?_,?_]
  ·have hi':=c.2.1;obtain rfl:i=l.length:=by lia
   exact wk.stop tr fw
  ·have hi':=c.2.1;obtain rfl:i=l.length:=by lia
   obtain⟨_,_,us,af,c,_,h3⟩:=c;rw[Pu]at h3;have h3:us=l.map λ_=>U.ls []:=h3;subst h3;have ea:=c.dl.symm.trans s1;cases ea;have ql:qs.length=l.length:=by have:=c.du.length;simpa using this.symm
   have D1:H1 D=none:=n1;refine q _ _ _ h2 (w.trans fw) (RO.back (s:=.oo _) w #[D,λb=>b=D∨b∈qs,rfl,λb hb=>hb.elim (λz=>by rw[z];exact n1) λz=>(s3 b z).1,qs,λ_=>Mo,λz=>(s3 D z).2.1 rfl,s2,s1,?_]);have mk:∀(B':Addr->Prop)(l:List U)(qs:List Addr),qs.length=l.length->(∀q∈qs,H2 q=some (.lst []))->LlR W B' H2 (l.map λ_=>[]) qs:=by
    intro B' l;induction l with
    |nil=>intro qs hl _;rw[Dp.mp hl];exact .nil
    |cons u l ih=>
     intro qs hl hq;cases qs with
     |nil=>cases hl
     |cons q qs=>exact .cons (hq q Ah) rfl (ih qs (Kw hl) λb hb=>hq b (Af _ hb))
   exact mk _ l qs ql λq hq=>(s3 q hq).2.2
def aR9{i:Nat}{x y:Str}{elt iter tg:Cr}{pos spos py:Pos}{Fi:TVa}(hnd:X.N.Nodup)(sc0:Scope)(N0:List Str)(hsc:X.env.scope=sc0)(hN:X.N=N0)(hcell:HC X)
  (ok:oU scope sc0 [] N0) (hc:X.calm=true) (hi:VIc X tg iter Fi) (hg:∀cl C s2 H2 fp,PG (bD X (cH [y] []) scope cl C s2 H2 fp) tg g) (hG:VTh 1 g (iC 0)) (he:∀cl C s2 H2 fp,PE (bD X (cH [y] []) scope cl C s2 H2 fp) elt (aYk aJw))
  (hi':X.N[i]? =some x:=by rfl) (hx:Loc X.env.scope x:=by exact Dl rfl) (hsw:#v[p]:=by rfl)
  (hs:FS X iter:=by intro _;rfl) (hf:FL X x:=by trivial):VS X (.Assign [.Name x py] #v[8] spos) (aRv i (vLl Fi)):=
 let⟨_,p,f⟩:=hi;#[_,aV8 (own:=[y]) (cap:=[]) hnd hi' hx sc0 N0 hsc hN hcell ok hc p hg he hsw hs hf,λo h j=>bCe f hG o.ee h λs v H1 h1 w r=>aBc o w r h1 j.nx]
def Fzb:HO->Prop
 |.dK _=>True
 |.ext _=>True
 |_=>False
section
variable {X:Cx}{aa:#v[6]}{σ:St}{H:Hp}{s:Shared}{d:Addr}{u:HO}{o:Obj}
def Inv.freezeU(fu:Fzb u)(I:#v[3])(e:H d=some u)(ho:s.heap.get? d=some o):Inv X aa σ (upd H d (.frz o u)) s:=by
 have ne:∀{b:Addr}{u':HO},H b=some u'->¬Fzb u'->b≠d:=λq n z=>n (by rw[z,e]at q;cases q;exact fu);have st:∀{b:Addr}{x:HO},bO X.prog X.w H s.heap b x->bO X.prog X.w (upd H d (.frz o u)) s.heap b x:=λh=>h.stay (λ_ _ _ z=>z) (λc z=>by rw[aN (ne z λz=>z)];exact z) λc xs z=>by rw[aN (ne z λz=>z)];exact z
 refine I.un (h':=s.heap) (t':=s.toks) #[λb u q _ _ _=>q,λb u q _ _ _=>#[u.slots,q],λb u q n _=>?_,λb u q _=>#[u,q],λb xs q=>?_,λb u v q=>?_,λb ps q=>#[(List.toArray []),?_]] λb u q=>?_
 ·rw[aN (λz=>by rw[z,e]at n;cases n)];exact n
 ·rw[aN (ne q λz=>z)];exact q
 ·rw[aN (ne q λz=>z)];exact q
 ·rw[aN (ne q λz=>z),q];simp
 ·by_cases hb:b=d
  ·subst hb;rw[aP]at q;cases q;exact#[ho,st (I.hok b _ e)]
  ·rw[aN hb]at q;exact st (I.hok b u q)
def Inv.thawU(fu:Fzb u)(I:#v[3])(n0:∀o u,X.H₀ d≠some (.frz o u))(e:H d=some (.frz o u)):Inv X aa σ (upd H d u) s:=by
 have ne:∀{b:Addr}{x:HO},H b=some x->x≠.frz o u->b≠d:=λq n z=>n (by rw[z,e]at q;cases q;rfl);have nn:∀{b:Addr},H b=none->b≠d:=λq z=>by rw[z,e]at q;cases q
 have st:∀{b:Addr}{x:HO},bO X.prog X.w H s.heap b x->bO X.prog X.w (upd H d u) s.heap b x:=λh=>h.stay (λ_ _ _ z=>z) (λc z=>by rw[aN (ne z (by intro z;cases z))];exact z) λc xs z=>by rw[aN (ne z (by intro z;cases z))];exact z
 refine#[I.ok,I.os,I.bare,#[I.base.keep,I.base.slot,λb u q n hx=>?_,I.base.there,λb xs q=>?_,λb u v q=>?_,λb ps q=>?_],I.loc,I.cell,?_,λx c q=>?_,λp hp=>?_,λb u q=>?_,I.len]
 ·have:=I.base.free b u q n hx;rw[aN (nn this)];exact this
 ·have:=I.base.tups b xs q;rw[aN (ne this (by intro z;cases z))];exact this
 ·have:=I.base.frzs b u v q;have nb:b≠d:=λz=>n0 u v (by rw[<-z];exact q);rw[aN nb];exact this
 ·obtain⟨m,z⟩:=I.base.tbls b ps q;exact#[m,by rw[aN (ne z (by intro z;cases z))];exact z]
 ·rw[aN (nn I.free)];exact I.free
 ·rw[aN (nn (I.freeC x c q))];exact I.freeC x c q
 ·obtain⟨a1,a2,a3⟩:=I.pin p hp;exact#[a1,by rw[aN (nn a2)];exact a2,a3]
 ·by_cases hb:b=d
  ·subst hb;rw[aP]at q;cases q;exact st (show bO X.prog X.w H s.heap b (.frz o u)from I.hok b _ e).2
  ·rw[aN hb]at q;exact st (I.hok b u q)
inductive aU8(t:TE)(σ:St)(H:Hp)(Q:VK):Prop
 |mk (d u:_) (q0_:Fzb u) (q1_:H d=some u) (q2_:∀ob,t σ (upd H d (.frz ob u)) λv H1=>H1 d=some (.frz ob u)/\Q v (upd H1 d u)):aU8 t σ H Q
def bA1(t:TE):TE:=λσ H Q=>aU8 t σ H Q
def aQo{e:Cr}(h:PE X e t):PE X e (bA1 t):=by
 intro aa s σ H Q I #[d,u,fu,e0,q];have n0:∀o u,X.H₀ d≠some (.frz o u):=λo u z=>by
  have:=I.base.frzs d o u z;rw[this]at e0;cases e0;exact fu
 obtain⟨ob,ho⟩:∃ob,s.heap.get? d=some ob:=by
  have:=I.hok d u e0;cases u<;>first|exact fu.elim|skip
  ·obtain⟨_,_,_,_,o,_,_,g,_⟩:=(show bO X.prog X.w H s.heap d (.dK _)from this);exact#[o,g]
  ·exact this.2.1
 exact thn (h aa s σ _ _ (I.freezeU fu e0 ho) (q ob)) λv s1 ⟨x,H1,I1,r1,e1,q1⟩=>#[x,_,I1.thawU fu n0 e1,r1,q1]
end
def Itw(d:Addr)(o:Obj)(u:HO)(vs:List V):It:=#[λi H=>H d=some (.frz o u)/\i<vs.length,λi H x H'=>H'=H/\vs[i]? =some x,λi H=>H d=some (.frz o u)/\i=vs.length]
def KV.vals{κ:Type}{kvs:List (κ×V)}{ws:List (κ×Value)}(h:KV kvs ws):Vals (kvs.map (·.2)) (ws.map (·.2)):=by
 induction h with
 |nil=>exact .nil
 |cons r _ ih=>exact .cons r.2 ih
def aNg{P:An}{w:Bh}{K:Ad}{tg:Cr}{d it:Addr}{o:Obj}{u:HO}{es:Array Ky}{ep:Nat}(hx:o.ExactDict)(hd:o.data=.dict es ep)(hv:Vals vs (es.toList.map (·.val))):
  Turn P w K tg (Itw d o u vs) [it] it (λi h=>h.IsValIter it d i es.size ep) where
 mem:=by simp
 obj:=λi h st b hb=>by
  have e:b=it:=by simpa using hb
  subst e;obtain⟨o,e,c,d⟩:=st;exact#[o,e,λv z=>by rw[d]at z;cases z]
 keep:=λi h h' st k=>st.at λo e=>k it (by simp) o e
 item:=by
  intro X hP hw hK hc i aa s σ H E I hf st hg;subst hP hw hK;obtain⟨e,hi⟩:=hg;obtain⟨g,_⟩:=(show bO X.prog X.w H s.heap d (.frz o u)from I.hok d _ e);obtain⟨f0,f1,f2,f3,f4,f5⟩:=hf it (by simp);have hl:vs.length=es.size:=by rw[Vals.length hv,Ab,Az]
  rw[hl]at hi;have hy:(es.toList.map (·.val))[i]? =some es[i].val:=by simp[hi]
  have hk:vs[i]? =some (vs[i]'(by rw[hl];exact hi)):=Ag _;obtain⟨y,hy',rx⟩:=Vals.get hv hk;rw[hy]at hy';cases hy';refine aM6 st #[o,g,hx,hd] hi λh' st' sb=>?_;have I1:Inv X aa σ H {s with heap:=h'}:=I.turned (t':=s.toks) (λb o hb e=>(sb.2 b hb).trans e) f0 f1 f3 f4 f5;obtain⟨o',e',c,d'⟩:=id st';exact#[_,rfl,aKv (s:={s with heap:=h'}) e' c d' ⋯ #[_,H,I1,rx,#[rfl,hk],st',λb hb=>(hf b hb).1]]
 done:=by
  intro X hP hw hK hc i aa s σ H E I hf st hg;subst hP hw hK;obtain⟨e,hi⟩:=hg;obtain⟨g,_⟩:=(show bO X.prog X.w H s.heap d (.frz o u)from I.hok d _ e);obtain⟨f0,f1,f2,f3,f4,f5⟩:=hf it (by simp);have hl:vs.length=es.size:=by rw[Vals.length hv,Ab,Az]
  rw[hl]at hi;subst hi;exact aQ6 (I.ok.hd hc) st #[o,g,hx,hd] λh' eb=>#[rfl,I.turned (t':=s.toks) (λb o hb e=>eb b o hb e) f0 f1 f3 f4 f5]
 self:=λ_ _ _ _ _ st h=>wpAny_pyIter_valiter st h
def aJe{prog:An}{w:Bh}{K:Type} [DecidableEq K]{knd:KeyKind prog w K}{es:List Ky}{ws:List (K×Value)}(h:Pairs knd es ws):es.map (·.val)=ws.map (·.2):=by
 induction h with
 |nil=>rfl
 |cons _ e _ ih=>rw[Bj,Bj,e,ih]
def Dct(P:An)(w:Bh)(d:Addr)(u:HO)(vs:List V):Prop:=(∃kvs,u=.dK kvs/\vs=kvs.map (·.2))∨∃xs:#v[11],u=.ext (dY P w d xs)/\Vals vs (xs.map (·.2.2))
def Dct.raw{P:An}{w:Bh}{H:Hp}{h:Heap}{d:Addr}{o:Obj}{u:HO}(c:Dct P w d u vs)(x:bO P w H h d (.frz o u)):h.get? d=some o/\(d==Gs)=false/\o.ExactDict/\∃es ep,o.data=.dict es ep/\Vals vs (es.toList.map (·.val)):=by
 obtain⟨g,x⟩:=x;rcases c with ⟨kvs,rfl,rfl⟩|⟨xs,rfl,hv⟩
 ·obtain⟨_,lo,ws,r,o',es,ep,g',x1,x2,_,x3,_⟩:=x;rw[g]at g';cases g';refine#[g,lo,x1,es,ep,x2,?_];rw[aJe x3];exact KV.vals r
 ·obtain⟨⟨lo,o',es,ep,g',x1,x2,x3,_⟩,_⟩:=x;rw[g]at g';cases g';refine#[g,lo,x1,es,ep,x2,?_];rw[x3,Ba];exact hv
def bAj(P:An)(w:Bh)(te:TE):TI:=λσ H R=>te σ H λv H1=>∃d ob u vs,v=.ref d/\H1 d=some (.frz ob u)/\Dct P w d u vs/\R (Itw d ob u vs) H1
def aTz(ho:PE X o te)(hbase:He o "values" X.env (eval o X.env)=eval o X.env:=by rfl)(hline:EL apos cpos:=by rfl):
  PI X tg (.Call (.Attribute o "values" apos) [] [] cpos) (bAj X.prog X.w te):=by
 intro aa s σ H R I h;refine wpAny_Call_method0_late hbase hline (thn (ho aa s σ H _ I h) λv s1 ⟨x,H1,I1,r1,d,ob,u,vs,ex,e,c,q⟩=>?_);subst ex;obtain rfl:v=As d:=r1;obtain⟨h1,lo,h2,es,ep,h3,hv⟩:=c.raw (I1.hok d _ e);refine#["dict","dict.values",PySem.F.plainAttrs_dict,Qp,PySem.F.type_dict_values,#[ob,h1,h2.1],λa e2=>by cases e2;exact#[ob,h1,h2.2.1],Sx rfl (PySem.evalArgs_none (Bw Qp #[ob,h1,h2.1] PySem.F.entry_dict_values ?_ (PySem.F.args_dict_values_1 _)))];refine Aa ?_;unfold Abh;refine Aa (Jd #[ob,h1,h2.1] ?_);show Bb _ _ (pure d) _ _ s1;refine Ac ?_;show Bb _ _ (Jq d>>=_) _ _ s1;unfold Jq;rw[Ab0 (by rw[lo];exact Ar)];refine Aa (Ac (Aa (Cd (Ac #[_,rfl,?_]))));refine aM7 (es:=es) (ep:=ep) #[_,Au _ rfl,rfl,rfl] #[ob,Ae _ h1,h2,h3] ?_;have le:s1.heap.objs.size<=(s1.heap.push {cls:=.type "dict_values",data:=.fields (List.toArray [.ref d])}).objs.size:=by rw[Df];exact Hq _
 refine#[_,[_],_,Itw d ob u vs,_,rfl,?_,aNg h2 h3 hv,?_,λb hb=>?_,q]
 ·exact I1.kept (t':=s1.toks) λb u q=>Ae _ (Ae _ q)
 ·exact#[_,Au _ rfl,rfl,rfl]
 ·rw[Ap.mp hb];exact I1.fpOk le (I1.hok.fresh le)
def frO(P:An)(w:Bh)(d:Addr)(ob:Obj)(hu:HO)(us:List U):Opq:=⟨λW B H v=>v=.ref d/\¬B d/\H d=some (.frz ob hu)/\∃vs,Dct P w d hu vs/\DUs W B H us vs,
 λk ⟨e,n,h,vs,c,ds⟩=>#[e,(k _ _ n h).1,(k _ _ n h).2,vs,c,DUs.mono k us ds],λk ⟨e,n,h,vs,c,ds⟩=>#[e,n,h,vs,c,DUs.wm k us ds]⟩
def bB7(P:An)(w:Bh)(F:TV):TVa:=λρ R=>F ρ λs=>∃d ob hu us,s=.sh (.op (frO P w d ob hu us))/\R us
def aLe{o tg:Cr}{apos cpos:Pos}{F:TV}(hP:X.prog=P)(hw:X.w=w)(h:VE X o F)(hbase:He o "values" X.env (eval o X.env)=eval o X.env:=by rfl)(hline:EL apos cpos:=by rfl):VI X tg (.Call (.Attribute o "values" apos) [] [] cpos) (bB7 P w F):=by
 subst hP hw;obtain⟨_,p,f⟩:=h;refine#[_,aTz p hbase hline,λ{W B ρ σ H R Q} e h q=>f e h λs v H1 h1 w r=>?_];obtain⟨d,ob,hu,us,rfl,h2⟩:=h1;obtain⟨rfl,nb,hd,vs,c,ds⟩:=r;refine#[d,ob,hu,vs,rfl,hd,c,q us _ _ h2 w #[λ{B2 H2} t=>#[(t d _ nb hd).2,ds.length],λ{B2 H2} i t h=>#[(t d _ nb hd).2,by rw[<-ds.length];exact h],λ{B2 H2} i{x H' u} e t h y=>?_]];obtain⟨rfl,y⟩:=y;obtain⟨x',g1,g2⟩:=ds.get h;rw[y]at g1;cases g1;exact#[e.refl,DU.mono t u g2]
section
variable {W W' B B':Addr->Prop}{H H':Hp}
mutual
theorem DU.ttF(k:#v[v])(e:EB W' B' H'):∀(u:U){v:V},u.tt->DU W B H u v->DU W' B' H' u v
 |.v _,_,_,h=>h
 |.tp l,_,t,⟨p,xs,e1,_,hp,ds⟩=>⟨p,xs,e1,λz=>by
  obtain⟨o,h,m⟩:=e.bl p z;rw[k p xs hp]at h;cases h;exact m,k p xs hp,DUs.ttF k e l t ds⟩
theorem DUs.ttF(k:#v[v])(e:EB W' B' H'):∀(l:List U){xs:List V},U.tts l->DUs W B H l xs->DUs W' B' H' l xs
 | [],_,_,h=>h
 |u::l,_,⟨t,t'⟩,⟨x,r,e1,h,h'⟩=>#[x,r,e1,DU.ttF k e u t h,DUs.ttF k e l t' h']
end
end
def aAk(ρ' ρ:EV):Prop:=ρ'.length=ρ.length/\∀(i:Nat)(s:Sl),ρ'[i]? =some s->s=.no∨∃u,s=.sh u/\u.tt/\ρ[i]? =some (.sh u)
def aAk.nil:aAk [] []:=#[rfl,λi s h=>by simp at h]
def aAk.no{s:Sl}(h:aAk ρ' ρ):aAk (.no::ρ') (s::ρ):=⟨Ab9 (·+1) h.1,λi s' e=>by
 cases i with
 |zero=>cases e;exact .inl rfl
 |succ i=>exact h.2 i s' e⟩
def aAk.sh(t:u.tt)(h:aAk ρ' ρ):aAk (.sh u::ρ') (.sh u::ρ):=⟨Ab9 (·+1) h.1,λi s' e=>by
 cases i with
 |zero=>cases e;exact .inr #[u,rfl,t,rfl]
 |succ i=>exact h.2 i s' e⟩
def aO3{P:An}{w:Bh}{F:TV}{W B:Addr->Prop}{ρ ρ':EV}{σ:St}{H:Hp}{R:Sl->Prop}{Q:VK}{j:Nat}{d:Addr}{hu:HO}{us:List U}(f:VT t F)(e:EE W B H ρ σ)(hj:σ[j]? =some (some (V.ref d)))(fu:Fzb hu)(hd:H d=some hu)(nw:¬W d)(c:Dct P w d hu vs)(ds:DUs W B H us vs)(tu:U.tts us)(ts:aAk ρ' ρ)
  (h:∀ob,F (ρ'.set j (.sh (.op (frO P w d ob hu us)))) λs=>s.tt/\R s) (q:∀s v H',R s->Fw W H H'->RO W B H H' s v->Q v H'):bA1 t σ H Q:=by
 refine#[d,hu,fu,hd,λob=>?_];have nt:∀{xs},hu≠.tup xs:=λz=>by rw[z]at fu;exact fu
 have tk:∀b xs,H b=some (.tup xs)->upd H d (.frz ob hu) b=some (.tup xs):=λb xs g=>(aN (λz:b=d=>by rw[z,hd]at g;cases g;exact fu)).trans g;have eb:EB W (λb=>B b/\b≠d) (upd H d (.frz ob hu)):=#[λp hp=>let⟨o,g,m⟩:=e.eb.bl p hp.1;#[o,(aN hp.2).trans g,m],λp hp=>#[e.eb.wb p hp,λz=>nw (z▸hp)],λp hp=>let⟨a,b,c,g⟩:=e.eb.wo p hp;#[a,b,c,(aN λz:p=d=>nw (z▸hp)).trans g]];have e':EE W (λb=>B b/\b≠d) (upd H d (.frz ob hu)) (ρ'.set j (.sh (.op (frO P w d ob hu us)))) σ:=by
  refine#[eb,by rw[Cg,ts.1,e.len],λi u g=>?_,λi s o g hs=>?_]
  ·rcases bT g with ⟨rfl,g,_⟩|⟨ne,g⟩
   ·cases g;exact#[_,hj,rfl,λz=>z.2 rfl,aP,vs,c,DUs.ttF tk eb us tu ds]
   ·rcases ts.2 i _ g with z|⟨u',z,tt,g⟩
    ·cases z
    ·cases z;obtain⟨v,g1,g2⟩:=e.sh i _ g;exact#[v,g1,DU.ttF tk eb _ tt g2]
  ·rcases bT g with ⟨rfl,rfl,_⟩|⟨ne,g⟩
   ·cases hs
   ·rcases ts.2 i _ g with rfl|⟨u',rfl,_⟩<;>cases hs
 refine f e' (h ob) λs v H1 ⟨st,hR⟩ wf r=>#[wf.fr d _ nw aP,q s v _ hR ?_ ?_]
 all_goals
  have h1:=wf.fr d _ nw (aP (H:=H) (a:=d) (o:=HO.frz ob hu));have fw:Fw W H (upd H1 d hu):=⟨λb o nW g=>by
   by_cases z:b=d
   ·subst z;rw[hd]at g;cases g;exact aP
   ·exact(aN z).trans (wf.fr b o nW ((aN z).trans g)),λp hp=>let⟨a,b,c,g⟩:=wf.wo p hp;#[a,b,c,(aN λz:p=d=>nw (z▸hp)).trans g]⟩
 ·exact fw
 ·have eb2:=e.eb.to fw;have tk2:∀b xs,H1 b=some (.tup xs)->upd H1 d hu b=some (.tup xs):=λb xs g=>(aN (λz:b=d=>by rw[z,h1]at g;cases g)).trans g;match s,st,r with
  |.sh u,st,r=>exact DU.ttF tk2 eb2 u st r
  |.ow l,st,⟨p,xs,e1,n1,g2,g3⟩=>
   have pd:p≠d:=λz=>by rw[z,aP]at n1;cases n1
   rw[aN pd]at n1;exact#[p,xs,e1,n1,(aN pd).trans g2,DUs.ttF tk2 #[λq hq=>hq.elim (eb2.bl q) λz=>#[.lst xs,by rw[z];exact(aN pd).trans g2,trivial],λq hq=> .inl (eb2.wb q hq),eb2.wo] l st g3]
def bDf(P:An)(w:Bh)(j:Nat)(F:TV):TV:=λρ R=>∃f n,(ρ[j]? =some (.oo (ndO f n))∨ρ[j]? =some (.bo (ndO f n)))/\(∀i u,f i=some u->u.tt)/\∃ρ',aAk ρ' ρ/\∀d ob hu us,(∀u∈us,∃i,f i=some u)->(∀i u,f i=some u->u∈us)->us.length<=n->F (ρ'.set j (.sh (.op (frO P w d ob hu us)))) λs=>s.tt/\R s
def bDg(P:An)(w:Bh)(j:Nat)(F:TV):TV:=λρ R=>∃s kvs,ρ[j]? =some s/\aL9 P w s kvs/\U.tts (kvs.map (·.2))/\∃ρ',aAk ρ' ρ/\∀d ob hu,F (ρ'.set j (.sh (.op (frO P w d ob hu (kvs.map (·.2)))))) λs=>s.tt/\R s
def aHk(nd:(kvs.map (·.1)).Nodup){p:Key×V}(h:p∈kvs):lO kvs p.1=some p.2:=by
 unfold lO;induction kvs with
 |nil=>cases h
 |cons q r ih=>
  rw[Bj,Dx]at nd;rw[Ig];rcases Ax.mp h with rfl|h
  ·rw[Ab5 rfl];rfl
  ·rw[Ab6 λe=>nd.1 (by rw[e];exact Aj.mpr #[p,h,rfl])];exact ih nd.2 h
def aPl{W B:Addr->Prop}{H:Hp}{f:Int->Option U}(hk:NdK kvs)(r:NdR W B H f kvs):∃us,DUs W B H us (kvs.map (·.2))/\(∀u∈us,∃i,f i=some u)/\(∀i u,f i=some u->u∈us):=by
 have key:∀ps:List (Key×V),(∀p∈ps,p∈kvs)->∃us:List U,DUs W B H us (ps.map (·.2))/\(∀u∈us,∃i,f i=some u)/\∀(i:Int)(u:U),(∃p∈ps,p.1=.inl i)->f i=some u->u∈us:=by
  intro ps;induction ps with
  |nil=>exactλ_=>#[[],rfl,nofun,λ_ _ ⟨_,h,_⟩=>nomatch h]
  |cons p ps ih=>
   intro hs;obtain⟨us,h1,h2,h3⟩:=ih λq hq=>hs q (Af _ hq);have hp:=hs p Ah;obtain⟨i,ei⟩:=hk.2 p hp;have ev:=aHk hk.1 hp;rw[ei]at ev;rcases r i with ⟨_,z⟩|⟨u,v,a1,a2,a3⟩
   ·rw[ev]at z;cases z
   ·rw[ev]at a2;cases a2;refine#[u::us,#[_,_,rfl,a3,h1],λx hx=>(Ax.mp hx).elim (λe=>#[i,by rw[e];exact a1]) (h2 x),λi' u' ⟨q,hq,eq⟩ hf=>?_];rcases Ax.mp hq with rfl|hq
    ·rw[ei]at eq;cases eq;rw[a1]at hf;cases hf;exact Ah
    ·exact Af _ (h3 i' u' #[q,hq,eq] hf)
 obtain⟨us,h1,h2,h3⟩:=key kvs λ_ h=>h;refine#[us,h1,h2,λi u hf=>h3 i u ?_ hf];rcases r i with ⟨z,_⟩|⟨_,v,_,a2,_⟩
 ·rw[hf]at z;cases z
 ·unfold lO at a2;obtain⟨p,hp,_⟩:=Jw.mp a2;exact#[p,Rt hp,by simpa using Xs hp]
def aY6{e:Cr}{F:TV}(j:Nat)(he:VE X e F):VE X e (bDf P w j F):=by
 obtain⟨_,p,f⟩:=he;refine#[_,aQo p,λ{W B ρ σ H R Q} e h q=>?_];obtain⟨g,n,hj,tt,ρ',ts,h⟩:=h;obtain⟨d,S,s1,nw,sS,kvs,hd,hl,r⟩:=hj.elim (λz=>e.hd j _ _ z rfl) λz=>e.hd j _ _ z rfl;obtain⟨us,h1,h2,h3⟩:=aPl hl.2 r;have tts:∀l:List U,(∀u∈l,U.tt u)->U.tts l:=λl=>by
  induction l with
  |nil=>exactλ_=>trivial
  |cons u l ih=>exactλh=>#[h u Ah,ih λx hx=>h x (Af _ hx)]
 exact aO3 (hu:=.dK kvs) f e s1 Hh hd (nw d ((sS d).mpr rfl)) (.inl #[kvs,rfl,rfl]) h1 (tts us λu hu=>let⟨i,hi⟩:=h2 u hu;tt i u hi) ts (λob=>h d ob _ us h2 h3 (by rw[h1.length,Ab];exact hl.1)) q
def aY7{e:Cr}{F:TV}(j:Nat)(he:VE X e F):VE X e (bDg P w j F):=by
 obtain⟨_,p,f⟩:=he;refine#[_,aQo p,λ{W B ρ σ H R Q} e h q=>?_];obtain⟨s,kvs,hj,hp,tt,ρ',ts,h⟩:=h;obtain⟨d,xs,s1,nw,hd,r⟩:∃d xs,σ[j]? =some (some (V.ref d))/\¬W d/\H d=some (.ext (dY P w d xs))/\PdR W B H kvs xs:=by
  rcases hp with rfl|rfl|rfl
  ·obtain⟨d,S,s1,nw,sS,xs,hd,r⟩:=e.hd j _ _ hj rfl;exact#[d,xs,s1,nw d ((sS d).mpr rfl),hd,r]
  ·obtain⟨d,S,s1,nw,sS,xs,hd,r⟩:=e.hd j _ _ hj rfl;exact#[d,xs,s1,nw d ((sS d).mpr rfl),hd,r]
  ·obtain⟨v,s1,d,S,rfl,nS,sS,xs,hd,r⟩:=e.sh j _ hj;exact#[d,xs,s1,λz=>nS d ((sS d).mpr rfl) (e.eb.wb d z),hd,r]
 obtain⟨vs,rv,dv⟩:=r.vals;exact aO3 (hu:=.ext (dY P w d xs)) f e s1 Hh hd nw (.inr #[xs,rfl,rv]) dv tt ts (λob=>h d ob _) q
def vNg(F G:TV):TV:=λρ R=>F ρ λs=>∃f n,(s=.bo (ndO f n)∨s=.sh (.op (ndO f n).fz))/\G ρ λs'=>∃i u,s'.rd=.n i/\f i=some u/\R (.sh u)
def aYy(neg:Bool)(G F:TV):TV:=λρ R=>G ρ λs'=>F ρ λs=>∃f n i,(s=.bo (ndO f n)∨s=.sh (.op (ndO f n).fz))/\s'.rd=.n i/\R (.sh (.b (if neg then !(f i).isSome else(f i).isSome)))
def aSw(W B:Addr->Prop)(H:Hp)(f:Int->Option U)(v:V):Prop:=∃d kvs,v=.ref d/\H d=some (.dK kvs)/\NdR W B H f kvs
def RO.nd{W B:Addr->Prop}{H H':Hp}{f:Int->Option U}{s:Sl}(hs:s=.bo (ndO f n)∨s=.sh (.op (ndO f n).fz))(r:RO W B H H' s v):aSw W B H' f v:=by
 rcases hs with rfl|rfl
 ·obtain⟨d,S,rfl,_,_,kvs,hd,_,r⟩:=r;exact#[d,kvs,rfl,hd,r]
 ·obtain⟨d,S,rfl,_,_,kvs,hd,_,r⟩:=r;exact#[d,kvs,rfl,hd,r]
def aSw.mono{W B:Addr->Prop}{H H':Hp}{f:Int->Option U}{s:Sl}(hs:s=.bo (ndO f n)∨s=.sh (.op (ndO f n).fz))(e:EB W B H)(w:Fw W H H')(r:RO W B H0 H s v):aSw W B H' f v:=by
 rcases hs with rfl|rfl
 ·obtain⟨d,S,rfl,nw,φ⟩:=r;obtain⟨_,kvs,hd,_,r⟩:=(ndO f n).mono (e.keep w) (λb hb=>let⟨y,hy,_⟩:=(ndO f n).th φ b hb;(w.fr b y (nw b hb) hy).trans hy.symm) φ;exact#[d,kvs,rfl,hd,r]
 ·exact RO.nd (.inr rfl) (show RO W B H H' (.sh (.op (ndO f n).fz)) v from DU.mono (e.keep w) _ r)
def aR4{o i:Cr}{pos:Pos}{F G:TV}(hr:eZ k X.A)(ho:VE X o F)(hi:VE X i G)(hs:aWo i:=by exactλ_ _=>rfl):VE X (.Subscript o i pos) (vNg F G):=by
 obtain⟨_,p,f⟩:=ho;obtain⟨_,p1,f1⟩:=hi;refine#[_,aTu (by have:=hr.un;lia) p p1 hs,λ{W B ρ σ H R Q} e h q=>f e h λs v H1 h1 w1 r1=>?_];have e1:=e.to w1;obtain⟨g,n,hs,h1⟩:=h1;refine f1 e1 h1 λs' v' H2 h2 w2 r2=>?_;obtain⟨i,u,ei,hu,h2⟩:=h2;obtain⟨d,kvs,rfl,hd,r⟩:=aSw.mono hs e1.eb w2 r1;have d2:=r2.db e1.eb;rw[ei]at d2;obtain rfl:=d2.int;rcases r i with ⟨z,_⟩|⟨u',v,a1,a2,a3⟩
 ·rw[hu]at z;cases z
 ·rw[hu]at a1;cases a1;exact#[d,v,rfl,a2▸aBq.k (k:=.inl i) hd,q _ _ _ h2 (w1.trans w2) a3]
def aZf{ty td:TE}{F G:TV}(hi:VT ty G)(ho:VT td F):VT (bC2 ty td) (aYy false G F)/\VT (aLb ty td) (aYy true G F):=by
 constructor
 all_goals
  intro W B ρ σ H R Q e h q;refine hi e h λs' v' H1 h1 w1 r1=>?_;have e1:=e.to w1;refine ho e1 h1 λs v H2 h2 w2 r2=>?_;obtain⟨f,n,i,hs,ei,h2⟩:=h2;obtain⟨d,kvs,rfl,hd,r⟩:=r2.nd hs;have d2:=(r1.db e.eb).to e1.eb w2;rw[ei]at d2;obtain rfl:=d2.int;refine#[d,_,rfl,aBq.k (k:=.inl i) hd,q _ _ _ h2 (w1.trans w2) ?_];rcases r i with ⟨a1,a2⟩|⟨u',v,a1,a2,_⟩<;>rw[a1,a2]<;>exact#[rfl,rfl]
def bCd{F:TV}(h:VT t F):VTc (tB t) (nU F):=λe h1 q=>h e h1 λs v H1 h2 f r=>by
 have d:=r.db e.eb;revert h2 d;generalize s.rd=u;intro h2 d;split at h2
 ·exact#[_,d.fl.1,q _ _ h2 f]
 ·exact h2.elim
def aY3{a b:Cr}{pos:Pos}{F G:TV}(hr:eZ k X.A)(ha:VE X a G)(hb:VE X b F)(hm:Hd .NotIn b=false:=by first|exact aGs _ ⋯ ⋯|rfl):VC X (.Compare a [.NotIn] [b] pos) (nU (aYy true G F)):=by
 obtain⟨_,p,f⟩:=ha;obtain⟨_,p',f'⟩:=hb;exact#[_,aJl (aM0 (by have:=hr.un;lia) p p') hm,bCd (aZf f f').2]
def bBx(G:TVa):TV:=λρ R=>G ρ λus=>∃l m,us=[.ls l,.ls m]/\l.length<=m.length/\R (.ow (wW l m))
def aU0{W B:Addr->Prop}{H:Hp}:∀{m:List U}{xs ys:List V}{as:List Addr},l.length<=m.length->as.length=xs.length->DUs W B H l xs->DUs W B H m ys->(∀(j:Nat)(a:Addr)(x y:V),as[j]? =some a->xs[j]? =some x->ys[j]? =some y->¬B a/\H a=some (.tup [x,y]))->DUs W B H (wW l m) (as.map V.ref):=by
 induction l with
 |nil=>
  intro m xs ys as _ la d _ _;obtain rfl:xs=[]:=d;rw[Dp.mp la];rfl
 |cons u l ih=>
  intro m xs ys as hl la d1 d2 h;cases m with
  |nil=>exact Ab2 hl (by simp)
  |cons v m=>
   obtain⟨x,xs,rfl,d1,t1⟩:=d1;obtain⟨y,ys,rfl,d2,t2⟩:=d2;cases as with
   |nil=>cases la
   |cons a as=>
    obtain⟨nb,ha⟩:=h 0 a x y rfl rfl rfl;exact#[_,_,rfl,#[a,_,rfl,nb,ha,x,_,rfl,d1,y,_,rfl,d2,rfl],ih (Nat.le_of_succ_le_succ hl) (Kw la) t1 t2 λj b x y h1 h2 h3=>h (j+1) b x y h1 h2 h3]
def aUr{a b:Cr}{p p2 pos pos2:Pos}{G:TVa}(hc:X.calm=true)(hm:X.mg "list"=none)(hm2:X.mg "zip"=none)(ha:VB X [a,b] G)(hg:Gl X "list":=by rfl)(hg2:Gl X "zip":=by rfl)(hs:#v[n]:=by rfl)(hs2:Ca [b] X.env=[(false,eval b X.env)]:=by rfl)
  (he:Ca [.Call (.Name "zip" p2) [a,b] [] pos2] X.env=[(false,eval (.Call (.Name "zip" p2) [a,b] [] pos2) X.env)]:=by rfl):VE X (.Call (.Name "list" p) [.Call (.Name "zip" p2) [a,b] [] pos2] [] pos) (bBx G):=by
 obtain⟨_,p,f⟩:=ha;refine#[_,aJf hc hg hm hg2 hm2 p hs hs2 he,λ{W B ρ σ H R Q} e h q=>f e h λus vs H1 ⟨l,m,eu,hl,h2⟩ w d=>?_];subst eu;obtain⟨x,y,rfl,d1,d2⟩:=DBs.two d;have e1:=e.to w;obtain⟨a,xs,rfl,_,ha,da⟩:=d1.ls e1.eb;obtain⟨b,ys,rfl,_,hb,db⟩:=d2.ls e1.eb;refine#[a,b,xs,ys,rfl,SqL.of ha,SqL.of hb,by rw[<-da.length, <-db.length];exact hl,λk H' as z=>?_];have sm:∀c o,H1 c=some o->H' c=some o:=λc o g=>(z.same c (aR g z.lf) λhm=>by rw[(z.fresh c hm).1]at g;cases g).trans g;have fw:Fw W H1 H':=e1.eb.same sm;have k1:∀c o,¬B c->H1 c=some o->¬(B c∨c=k)/\H' c=some o:=λc o n g=>#[λy=>y.elim n (aR g z.lf),sm c o g];refine q _ _ _ h2 (w.trans fw) (RO.back (s:=.ow _) w #[k,_,rfl,z.lf,z.lst,aU0 hl z.len (DUs.mono k1 _ da) (DUs.mono k1 _ db) λj c x y h1 h2 h3=>#[λy=>?_,z.prs j c x y h1 h2 h3]]);obtain⟨n1,n2⟩:=z.fresh c (Ai h1);exact y.elim (e1.eb.nw n1) n2
def aLq:dR X (.builtin "len") (λys H Q=>∃a xs,ys=[V.ref a]/\H a=some (.ext (dY X.prog X.w a xs))/\xs.length<=10000/\Q (.int xs.length) H):=by
 intro aa s σ H xs us Q I r h;obtain⟨a,ps,rfl,e,hl,q⟩:=h;obtain⟨u,rfl,ru⟩:=vals1 r;obtain rfl:u=As a:=ru;obtain⟨⟨lo,o,es,ep,h1,h2,h3,h4,h5⟩,_,_⟩:=(show bO X.prog X.w H s.heap a (.ext (dY X.prog X.w a ps))from I.hok a _ e);have el:es.size=ps.length:=by rw[<-Az,h4,Ab]
 have ty:s.TypeIs (.ref a) "dict":=#[o,h1,h2.1];refine call_len_slot (n:=(es.size:Int)) ty Sh (λQ' q'=>Bw Sh ty PySem.F.entry_dict_len ?_ (PySem.F.args_dict_len_1 _)) ∅ ∅ #[.int es.size,H,I.tok _,#[_,rfl],by rw[el];exact q];unfold Builtin.«dict.__len__» Ox;refine Aa (Aa (Jd ty (Ac ?_)));show Bb _ _ (dictSize a>>=λn=>Ow a>>=λm=>retInt ((n:Int)+(m:Int))) _ _ s;unfold dictSize Ow;refine Aa (Aa (Em h1 h3 (Ac ?_)));rw[Ab0 (by rw[lo];exact Ar)];refine Aa (Ac ?_);rw[show((es.size:Int)+((0:Nat):Int))=es.size by lia];exact(show Bb _ _ (do ret (<-mkInt (es.size:Int))) _ _ s from Aa (wpAny_mkInt (Ac #[_,rfl,q'])))
def aIi(hc:X.calm=true):dR X (.type "list") (λys H Q=>∃(a:Addr)(xs:#v[11]),ys=[.ref a]/\H a=some (.ext (dY X.prog X.w a xs))/\xs.length<=10000/\∀l,H l=none->Q (.ref l) (upd H l (.lst (xs.map λx=>V.ref x.2.1)))):=by
 intro aa s σ H ys us Q I rs h;obtain⟨a,xs,rfl,ha,hl,q⟩:=h;obtain⟨u,rfl,ru⟩:=vals1 rs;cases ru;obtain⟨⟨lo,o,es,ep,h1,h2,h3,h4,h5⟩,_,_⟩:=(show bO X.prog X.w H s.heap a (.ext (dY X.prog X.w a xs))from I.hok a _ ha);have el:es.size=xs.length:=by rw[<-Az,h4,Ab]
 refine PySem.W.kdl_call (aT9 (es:=es) (ep:=ep) lo) (I.ok.hd hc) #[o,h1,h2,h3] (by rw[el,Es];lia) λh' tk af c hk hg hacc=>?_;have ea:af=(xs.map λx=>As x.2.1).toArray:=by
  apply Abl;refine Mb λj=>?_;rw[Bg];cases hj:xs[j]? with
  |none=>
   have:xs.length<=j:=Rv.mp hj;exact Gc (by rw[Az,hacc.1,el];exact this)
  |some x=>
   have hlt:j<af.size:=by rw[hacc.1,el];exact(Ay.mp hj).1
   obtain⟨e,e1,e2⟩:=hacc.2 j _ (Bz hlt);have e3:es.toList[j]? =some e:=by rw[De];exact e1
   rw[h4,Bg,hj]at e3;cases e3;rw[De,Bz hlt,e2];rfl
 subst ea;refine#[.ref #v[0],_,I.laid (t':=tk) (o:=.lst (xs.map λx=>V.ref x.2.1)) hk (Ak _) #[?_,_,c,?_,hg],rfl,q _ (I.hok.fresh (Ak _))]
 ·rw[Ab,Es]
  lia
 ·have:∀l:#v[11],Vals (l.map λx=>V.ref x.2.1) (l.map λx=>As x.2.1):=λl=>by
   induction l with
   |nil=>exact .nil
   |cons x xs ih=>exact .cons rfl ih
  exact this xs
def bBu(P:An)(w:Bh)(a:TV):TV:=λρ R=>a ρ λs=>∃kvs,aL9 P w s kvs/\kvs.length<=10000/\R (.sh (.n kvs.length))
def aUp{o:Cr}{p pos:Pos}{F:TV}(hP:X.prog=P)(hw:X.w=w)(hm:X.mg "len"=none)(ha:VE X o F)(hg:Gl X "len":=by rfl)(hs:SE X o []:=by rfl)(hpl:BT X pos []:=by rfl):VE X (.Call (.Name "len" p) [o] [] pos) (bBu P w F):=by
 subst hP hw;obtain⟨_,p,f⟩:=ha;refine#[_,iI aLq hg hm Cf (bZ p dN hs) ⋯ ⋯ hs hpl,λ{W B ρ σ H R Q} e h q=>f e h λs v H1 h1 w1 r1=>?_];obtain⟨kvs,hs,hl,h2⟩:=h1;obtain⟨a,xs,rfl,g1,g2⟩:=r1.pd hs;exact#[a,xs,rfl,g1,by rw[g2.len];exact hl,q _ _ _ h2 w1 (by rw[g2.len];exact#[rfl,rfl])]
def aYw(P:An)(w:Bh)(a:TV):TV:=λρ R=>a ρ λs=>∃kvs,aL9 P w s kvs/\kvs.length<=10000/\R (.ow (kvs.map λp=>tkU p.1))
def PdR.kys{W B:Addr->Prop}{H:Hp}{xs:#v[11]}(h:PdR W B H l xs):DUs W B H (l.map λp=>tkU p.1) (xs.map λx=>V.ref x.2.1):=by
 induction h with
 |nil=>rfl
 |cons d _ _ _ ih=>exact#[_,_,rfl,d,ih]
def aR2{o:Cr}{p pos:Pos}{F:TV}(hP:X.prog=P)(hw:X.w=w)(hc:X.calm=true)(hm:X.mg "list"=none)(ha:VE X o F)(hg:Gl X "list":=by rfl)(hs:SE X o []:=by rfl)(hpl:BT X pos []:=by rfl):VE X (.Call (.Name "list" p) [o] [] pos) (aYw P w F):=by
 subst hP hw;obtain⟨_,p,f⟩:=ha;refine#[_,gJ (aIi hc) hg hm Gh (bZ p dN hs) ⋯ ⋯ hs hpl,λ{W B ρ σ H R Q} e h q=>f e h λs v H1 h1 w1 r1=>?_];obtain⟨kvs,hs,hl,h2⟩:=h1;obtain⟨a,xs,rfl,g1,g2⟩:=r1.pd hs;have e1:=e.to w1;refine#[a,xs,rfl,g1,by rw[g2.len];exact hl,λm nm=>?_];have w3:=e1.eb.new (o:=.lst (xs.map λx=>V.ref x.2.1)) nm;refine q (.ow _) _ _ h2 (w1.trans w3) (RO.back (s:=.ow _) w1 #[m,_,rfl,nm,aP,?_]);exact DUs.mono (λb o nb h=>#[λz=>z.elim nb (aR h nm),(e1.eb.keep w3 b o nb h).2]) _ g2.kys
def aYv(a:TV):TV:=λρ R=>a ρ λs=>∃f n,s=.bo (ndO f n)/\∀ks:List Int,ks.Nodup->(∀i,i∈ks↔f i≠none)->R (.sh (.n ks.length))
theorem aGr:∀{kvs:List (Key×V)},(∀p∈kvs,∃i:Int,p.1=.inl i)->∃ks:List Int,kvs.map (·.1)=ks.map λi=>(.inl i:Key)
 | [],_=>#[[],rfl]
 |p::r,h=>by
  obtain⟨i,e⟩:=h p Ah;obtain⟨ks,e2⟩:=aGr (kvs:=r) λq hq=>h q (Af _ hq);exact#[i::ks,by rw[Bj,Bj,e,e2]]
def aR1{o:Cr}{p pos:Pos}{F:TV}(hm:X.mg "len"=none)(ha:VE X o F)(hg:Gl X "len":=by rfl)(hs:SE X o []:=by rfl)(hpl:BT X pos []:=by rfl):VE X (.Call (.Name "len" p) [o] [] pos) (aYv F):=by
 obtain⟨_,p,f⟩:=ha;refine#[_,iI aLo hg hm Cf (bZ p dN hs) ⋯ ⋯ hs hpl,λ{W B ρ σ H R Q} e h q=>f e h λs v H1 h1 w1 r1=>?_];obtain⟨f,n,rfl,h3⟩:=h1;obtain⟨a,S,rfl,nw,sS,kvs,hd,hl,r⟩:=r1;obtain⟨ks,ek⟩:=aGr hl.2.2;have nd:=hl.2.1;rw[ek]at nd;have el:kvs.length=ks.length:=by have:=Ab9 Fm ek;simpa using this
 refine#[a,kvs,rfl,hd,?_];rw[el];refine q _ _ _ (h3 ks (Pv _ (λa b h e=>h (by rw[e])) nd) λi=>?_) w1 #[rfl,rfl];have mem:i∈ks↔ ∃p∈kvs,p.1=.inl i:=by
  constructor
  ·intro hi;have:(.inl i:Key)∈kvs.map (·.1):=by rw[ek];exact Aj.mpr #[i,hi,rfl]
   exact Aj.mp this
  ·intro hp;have:=Aj.mpr hp;rw[ek]at this;obtain⟨j,hj,e⟩:=Aj.mp this;cases e;exact hj
 rw[mem];constructor
 ·rintro⟨p,hp,e⟩;have ev:=aHk hl.2.1 hp;rw[e]at ev;rcases r i with ⟨_,z⟩|⟨u,v,a1,_,_⟩
  ·rw[ev]at z;cases z
  ·rw[a1];exact nofun
 ·intro hf;rcases r i with ⟨z,_⟩|⟨_,v,_,a2,_⟩
  ·exact Ab2 z hf
  ·unfold lO at a2;obtain⟨p,hp,_⟩:=Jw.mp a2;exact#[p,Rt hp,by simpa using Xs hp]
inductive aNu(x:V)(vs:List V)(H:Hp)(Q:VK):Prop
 |mk (l xs y:_) (i:Int) (k:Nat) (q0_:x=.ref l) (q1_:vs=[.int i,y]) (q2_:H l=some (.lst xs)) (q3_:k<=xs.length) (q4_:(i=k∨(i= -1/\xs=[]))) (q5_:xs.length<sizeLine) (q6_:Q .non (upd H l (.lst (xs.take k++y::xs.drop k)))):aNu x vs H Q
def bA2:V->List V->Hp->VK->Prop:=λx vs H Q=>aNu x vs H Q
def aS2:MtM X "list.insert" bA2:=by
 intro aa s σ H x vs v us Q I rx rv h;obtain⟨l,xs,y,i,k,rfl,rfl,hH,hk,hi,hz,q⟩:=h;cases rx;obtain⟨u,w',rfl,ru,rw'⟩:=vals2 rv;obtain⟨t,rfl⟩:=ru;obtain⟨z,ab,n,r,hl,e⟩:=I.lstM hH;have hv:Vals (xs.take k++y::xs.drop k) (ab.take k++w'::ab.drop k):=Vals.append (Vals.take k r) (Paired.cons rw' (Vals.drop k r));have hlen:(xs.take k++y::xs.drop k).length<=sizeLine:=by
  rw[Am,Ao,Gg,Fs]
  lia
 have hz2:ab.toArray.size<=sizeLine:=by rw[Al];lia
 have hfit:¬(!Hu i)=true:=by
  rcases hi with rfl|⟨rfl,_⟩
  ·exact aO0 (k:=k) ∅
  ·decide
 have M:=@Yd l ab.toArray n i t w' hfit hz2;refine Oq F.slot_list_insert #[_,e,rfl] F.entry_list_insert (F.args_list_insert_3 _ _ _) M #[e,?_];refine#[.non,_,I.lset (its':=ab.take k++w'::ab.drop k) hH e ?_ hv hlen,rfl,q];rcases hi with hi|⟨rfl,hx⟩
 ·have hn:¬(i<0):=by lia
  have ht:i.toNat=k:=by lia
  simp only[hn,Ac1,Al,ht];rw[Re ∅];apply Abl;simp;exact Fx (by rw[Fs];exact Ak _)
 ·subst hx;obtain rfl:ab=[]:=Dp.mp hl.symm;obtain rfl:k=0:=by rw[My]at hk;lia
  rfl
def bBo(j y:Nat)(Fi Fa Fb:TV)(G:TVS):TVS:=λE ρ=>∃ls,ρ[j]? =some (.oo (llO ls))/\y<ρ.length/\Fi ρ λs=>∃(i:Int)(n:Nat)(l:List U),s.rd=.n i/\ixN ls.length i=some n/\ls[n]? =some l/\l.length<10000/\Fa (ρ.set y (.br l)) λs=>∃(z:Int)(k:Nat),s.rd=.n z/\k<=l.length/\(z=k∨(z= -1/\l=[]))/\Fb (ρ.set y (.br l)) λs=>s.es λu=>u.tt/\G E ((ρ.set j (.oo (llO (ls.set n (l.take k++u::l.drop k))))).set y .no)
def EO.setNo{W B:Addr->Prop}{H0 H:Hp}{A:Nat->Addr->Prop}{σ:St}(o:EO W B H0 A ρ σ H){i:Nat}:EO W B H0 (λj q=>j≠i/\A j q) (ρ.set i .no) (σ.set i (some v)) H:=by
 refine#[o.eb,o.fw,by rw[Cg,Cg,o.len],λj p h=>o.an j p h.2,λj p h=>o.aw j p h.2,λj j' p h h'=>o.inj j j' p h.2 h'.2,λj u h=>?_,λj s w h hs=>?_,λj s h=>?_]
 ·rcases bT h with ⟨rfl,h,_⟩|⟨ne,h⟩
  ·cases h
  ·obtain⟨v',h1,h2⟩:=o.sh j u h;exact#[v',by rw[El (Dc ne)];exact h1,DU.mono EO.kp u h2]
 ·rcases bT h with ⟨rfl,rfl,_⟩|⟨ne,h⟩
  ·cases hs
  ·obtain⟨p,h1,h2⟩:=o.hd j s w h hs;exact#[p,by rw[El (Dc ne)];exact h1,w.at_ (w.mono EO.kp (λ_ _=>rfl) h2) (aEg ne)]
 ·rcases bT h with ⟨rfl,rfl,_⟩|⟨ne,h⟩
  ·rfl
  ·exact o.nb j s h
def EE.setBr{W B:Addr->Prop}{H:Hp}{σ:St}{y:Nat}(e:EE W B H ρ σ)(nw:¬W q)(hq:H q=some (.lst vs))(d:DUs W B H l vs):EE W B H (ρ.set y (.br l)) (σ.set y (some (.ref q))):=by
 refine#[e.eb,by rw[Cg,Cg,e.len],λi u h=>?_,λi s w h hs=>?_]
 ·rcases bT h with ⟨rfl,h,_⟩|⟨ne,h⟩
  ·cases h
  ·obtain⟨v',h1,h2⟩:=e.sh i u h;exact#[v',by rw[El (Dc ne)];exact h1,h2]
 ·rcases bT h with ⟨rfl,rfl,hl⟩|⟨ne,h⟩
  ·cases hs;exact#[q,(·=q),by rw[Hv (by rw[<-e.len];exact hl)],λb hb=>by rw[hb];exact nw,λ_=>Mo,vs,hq,d]
  ·obtain⟨p,S,h1,h2,h3⟩:=e.hd i s w h hs;exact#[p,S,by rw[El (Dc ne)];exact h1,h2,h3]
def aSa{x yn:Str}{i a b:Cr}{p' sp py p2 apos cpos pos pos2:Pos}{Fi Fa Fb:TV}{G:TVS}(j y:Nat)(hNd:X.N.Nodup)(hi:VE X i Fi)(ha:VE X a Fa)(hb:VE X b Fb)(hG:VSs X rest G)
  (hN:X.N[j]? =some x:=by rfl) (hv:Vis X.env.scope x:=by trivial) (hd:ND x:=by decide) (hcd:NC x:=by decide) (hn:zM i:=by exactλ_ _=>rfl)
  (hNy:X.N[y]? =some yn:=by rfl) (hy:Loc X.env.scope yn:=by first|exact Dl rfl|exact Dr rfl) (hvy:Vis X.env.scope yn:=by trivial) (hdy:ND yn:=by decide) (hcdy:NC yn:=by decide)
  (hsw:Fe (.Subscript (.Name x p') i sp) (some (.Name yn py)) pos.line X.env=pure false:=by rfl) (hf:FL X yn:=by trivial)
  (hbase:He (.Name yn p2) "insert" X.env (eval (.Name yn p2) X.env)=eval (.Name yn p2) X.env:=by rfl)
  (hfew:((Np cpos (Ca [a,b] X.env)).all (λx=> !x.1) && (Gx cpos (Ed [] X.env)).all (λx=>x.1.isSome)
   && decide ([a,b].length+([]:List Lw).length+(if([]:List Lw).isEmpty then 0 else 1)<30))=true:=by rfl)
  (hline:EL apos cpos:=by rfl) (hs:Ca [a,b] X.env=(false,eval a X.env)::Ca [b] X.env:=by rfl) (hs2:SE X b []:=by rfl) (hplain:BT X cpos [b]:=by rfl)
  (hsw2:Fe (.Call (.Attribute (.Name yn p2) "insert" apos) [a,b] [] cpos) none pos2.line X.env=pure false:=by rfl):
  VSs X (.Assign [.Name yn py] (.Subscript (.Name x p') i sp) pos:: .Expr (.Call (.Attribute (.Name yn p2) "insert" apos) [a,b] [] cpos) pos2::rest) (bBo j y Fi Fa Fb G):=by
 obtain⟨_,p1,f1⟩:=hi;obtain⟨_,pa,fa⟩:=ha;obtain⟨_,pb,fb⟩:=hb;obtain⟨_,pg,fg⟩:=hG;refine#[_,bB (aBb hNd hNy hy (uL lB (pF hN hv hd hcd) p1 hn) hsw hf) (bB (qR (aK2 Jo PySem.F.slot_list_insert PySem.F.type_list_insert aS2 (pF hNy hvy hdy hcdy) (bZ pa (bZ pb dN hs2) hs) hbase hfew hline hs hplain) hsw2) pg),λ{W B H0 A ρ σ H E D} o h jj=>?_];obtain⟨ls,hj,ne,h⟩:=h;obtain⟨p,g1,_⟩:=o.hd j _ _ hj rfl;refine#[_,g1,f1 o.ee h λsk v H1 h1 w1 r1=>?_];obtain⟨i,n,l,ek,hi,hl,ll,h1⟩:=h1;have o1:=o.to w1;obtain⟨p',g2,qs,gs,gp,gn,gx,gr⟩:=o1.hd j _ _ hj rfl;rw[g1]at g2;cases g2;have d:=r1.db o.ee.eb;rw[ek]at d;obtain⟨q,vs,a1,a2,a3⟩:=gr.at_ hl;have mq:=Ai a1;have Aq:A j q:=(gs q).mpr (.inr mq);have e1:=o1.ee.setBr (y:=y) (o1.nw Aq) a2 a3;have yl:y<σ.length:=by rw[<-o.len];exact ne
 refine#[p,_,i,.ref q,rfl,d.int,SqL.of gx,aKx (by rw[Ab,gr.len]) hi (by rw[Bg,a1];rfl),?_];refine#[V.ref q,get_set yl,.inl #[rfl,_,SqL.of a2],fa e1 h1 λs va H2 h2 w2 r2=>?_];obtain⟨z0,k,ekk,hk,hz0,h2⟩:=h2;have d2:=r2.db e1.eb;rw[ekk]at d2;obtain rfl:=d2.int;have e2:=e1.to w2;refine fb e2 h2 λs vb H3 h3 w3 r3=>?_;obtain⟨u,⟨ut,h3⟩,du⟩:=r3.du e2.eb h3;have o3:=(o1.to w2).to w3;obtain⟨p',g2,qs',gs',gp',gn',gx',gr'⟩:=o3.hd j _ _ hj rfl;rw[g1]at g2;cases g2;have ke:∀b,A j b->H3 b=H1 b:=λb hb=>let⟨z,hz,_⟩:=o1.aw j b hb;(w3.fr b z (o1.nw hb) (w2.fr b z (o1.nw hb) hz)).trans hz.symm;have eqs:qs'=qs:=by
  have:=gx'.symm.trans ((ke p ((gs p).mpr (.inl rfl))).trans gx);exact(List.map_inj_right λ_ _ h=>V.ref.inj h).mp (HO.lst.inj (Bs this))
 subst eqs;have a2':=(ke q Aq).trans a2;have pq:p≠q:=λz=>gp (by rw[z];exact mq);have a3':=DUs.mono (λb o n h=>#[n,(o1.ee.eb.keep (w2.trans w3) b o n h).2]) l a3;have vl:=a3.length;refine#[q,vs,vb,z0,k,rfl,rfl,a2',∅,hz0.imp id λh=>#[h.1,Dp.mp (by rw[<-vl,h.2];rfl)],?_,?_]
 ·have:(10000:Nat)<=sizeLine:=by decide
  lia
 ·have o4:=o3.chg g1 Aq (s':=.oo (llO (ls.set n (l.take k++u::l.drop k)))) (x:=.lst (vs.take k++vb::vs.drop k)) rfl rfl #[qs',gs',gp',gn',(aN pq).trans gx',gr'.put (.inr #[j,Aq]) gn' a1 ((a3'.take k).app (show DUs _ _ _ (u::l.drop k) _ from#[_,_,rfl,du,a3'.drop k]))];exact fg o4.setNo h3 jj
def aLm:Fg "min"=some (.builtin "min"):=by decide+kernel
def bB0(F:TVa)(D:TV):TV:=λρ R=>F ρ λus=>D ρ λs=>∃ns:List Int,us=[.ls #v[x]]/\match s.rd with
 |.v d=>(ns=[]->R (.sh (.v d)))/\∀m:Int,m∈ns->(∀a∈ns,m<=a)->R (.sh (.n m))
 |_=>False
def aUs{a:Cr}{k:Cr}{kp:Pos}{F:TVa}{D:TV}{p pos:Pos}(hc:X.calm=true)(hm:X.mg "min"=none)(ha:VB X [a] F)(hk:VE X k D)(hg:Gl X "min":=by rfl)
  (hkw:∀{tk:TE},PE X k tk->PK X [#[some "default",k,kp]] (aLa tk aJw):=by exactλh=>aK4 h aQr)
  (hall:#v[t].all (·.1.isSome)=true:=by rfl) (hks:#v[t].filterMap (·.1)=[("default":Str)]:=by rfl)
  (he:SE X a []:=by rfl) (hpl:BT X pos [a]:=by rfl) (hpk:#v[t].any (·.1.isNone)=false:=by rfl):
  VE X (.Call (.Name "min" p) [a] [#[some "default",k,kp]] pos) (bB0 F D):=
 let⟨_,q1,f1⟩:=ha;let⟨_,q2,f2⟩:=hk;⟨_,aC4 (aKh (g:=false) hc) hg hm aLm q1 (hkw q2) hall hks ⋯ ⋯ he hpl hpk,λe h q=>f1 e h λus vs H1 h1 w1 d1=>f2 (e.to w1) h1 λs v H2 h2 w2 r2=>by
  obtain⟨ns,eu,h2⟩:=h2;subst eu;have e2:=(e.to w1).to w2;obtain⟨x,rfl,d⟩:=DBs.one (DBs.to (e.to w1).eb w2 d1);obtain⟨p,xs,rfl,_,hp,ds⟩:=d.ls e2.eb;rw[ds.ints]at hp;have dd:=r2.db (e.to w1).eb;revert h2 dd;generalize s.rd=u;intro h2 dd;split at h2
  ·obtain⟨rfl,fl⟩:=dd.fl;exact#[p,ns,_,rfl,rfl,SqL.of hp,λz=>q _ _ _ (h2.1 z) (w1.trans w2) #[rfl,fl],λm h3 h4=>q _ _ _ (h2.2 m h3 h4) (w1.trans w2) #[rfl,rfl]]
  ·exact h2.elim⟩
def bCb{X:Cx}{tg e:Cr}{F G:TVa}(h1:VI X tg e F)(h2:VI X tg e G):VI X tg e (λρ R=>F ρ R∨G ρ R):=
 let⟨w1,p1,f1⟩:=h1;let⟨w2,p2,f2⟩:=h2;#[λσ H R=>w1 σ H R∨w2 σ H R,λaa s σ H R I h=>h.elim (p1 aa s σ H R I) (p2 aa s σ H R I),λe h q=>h.imp (λh=>f1 e h q) λh=>f2 e h q]
def aUm(F:#v[q])(b a:TV):TV:=λρ R=>b ρ λs=>s.es λu=>a ρ λs=>match s with
 |.ow [.v (.int _),.v (.int _),.v (.int _)]=>F [u,.wl] λs=>s.nw/\R s
 |_=>False
def aNj{x:Str}{F:#v[q]}{a b:Cr}{Fa Fb:TV}{p pos:Pos}(C:Cal X.prog X.w X.K X.mg X.base CX0 k x ps (spV F))(hr:eZ k X.A)(hg:Gl X x)
  (hb:VE X b Fb) (ha:VE X a Fa) (hdb:ND x:=by decide) (he:Ca (b::[a]) X.env=(false,eval b X.env)::Ca [a] X.env:=by rfl) (he2:SE X a []:=by rfl) (hpl:BT X pos [a]:=by rfl):
  VE X (.Call (.Name x p) [b,a] [] pos) (aUm F Fb Fa):=
 let⟨_,p,f⟩:=ha;let⟨_,p',f'⟩:=hb;⟨_,aXp C hr hg aC3 (bZ p' (bZ p dN he2) he) hdb he hpl,λ{W B ρ σ H R Q} e h q=>f' e h λsb vb H0 h0 f0 r0=>by
  obtain⟨u,h0,du⟩:=r0.du e.eb h0;have e0:=e.to f0;refine f e0 h0 λs v H1 h1 f1 r1=>?_;match s,h1,r1 with
  |.ow [.v (.int x),.v (.int y),.v (.int z)],h1,⟨p,xs,e1,n1,g2,dd⟩=>
   obtain⟨x1,_,rfl,d1,x2,_,rfl,d2,x3,r3,rfl,d3,d4⟩:=dd;obtain rfl:r3=[]:=d4;rw[d1.1,d2.1,d3.1]at g2;have e2:=(e0.more f1 n1 g2 trivial).eb;have du1:DU W (λb=>B b∨b=p) H1 u vb:=DU.mono (λb o nb h=>#[λz=>z.elim nb (λy=>(by rw[y,n1]at h;cases h)),(e0.eb.keep f1 b o nb h).2]) u du;refine#[λb=>W b∨b=p,λb=>B b∨b=p,[u,.wl],_,#[e2.bl,λq hq=>hq.imp (e.eb.wb q) id,λq hq=>hq.elim (e2.wo q) λz=>by rw[z];exact#[_,_,_,g2]],(by rw[Bk];exact#[vb,[v],rfl,DU.wm (λ_=> .inl) u du1,v,[],rfl,#[p,e1,.inr rfl],rfl]),h1,λs v H3 h3 f3 r3=>?_];have f4:Fw W H H3:=f0.trans #[λb o w h=>f3.fr b o (λz=>z.elim w λy=>by rw[y,n1]at h;cases h) (f1.fr b o w h),λq hq=>f3.wo q (.inl hq)];have mo:∀b o,¬(B b∨b=p)->H3 b=some o->¬B b/\H3 b=some o:=λb o n h=>#[λz=>n (.inl z),h];refine q _ _ _ h3.2 f4 ?_;match s,h3.1,r3 with
   |.sh u,n,r=>exact DU.nw u n (DU.mono mo u r)
   |.ow l,n,⟨c,ys,e3,m1,m2,m3⟩=>exact#[c,ys,e3,(f0.trans f1).none_ m1,m2,DUs.nw l n (DUs.mono (λb o n h=>#[λz=>n (z.imp .inl id),h]) l m3)]⟩
end L2
namespace KR
open PySem PyProof.Rows L2
inductive Tm where
 |num (n:Int)
 |take (b:Int) (ss:List Int)
 |bin (k:Bool) (a b:Tm)
abbrev Tk:Type:=Int×List Int
structure Cn where
 num:Addr
 take:Addr
 bin:Bool->Addr
def cls(N:Cn):Tm->Addr
 |.num _=>N.num
 |.take _ _=>N.take
 |.bin k _ _=>N.bin k
def IsC(N:Cn)(C:Addr):Prop:=C=N.num∨C=N.take∨∃k,C=N.bin k
def isC(N:Cn)(t:Tm):IsC N (cls N t):=by
 cases t with
 |num=>exact .inl rfl
 |take=>exact .inr (.inl rfl)
 |bin k=>exact .inr (.inr #[k,rfl])
def kids:Tm->List Tm
 |.num _=>[]
 |.take _ _=>[]
 |.bin _ a b=>[a,b]
def ht:Tm->Nat
 |.num _=>1
 |.take _ _=>1
 |.bin _ a b=>max (ht a) (ht b)+1
def rT:Tm->Nat
 |.num _=>1
 |.take _ _=>1
 |.bin _ a b=>1+(rT a+rT b)
def raw:Tm->List Tk
 |.num _=>[]
 |.take b ss=>[(b,ss)]
 |.bin _ a b=>raw a++raw b
def aEa(t:Tm):0<ht t:=by cases t<;>exact Um _
theorem aXa(h:k∈kids t):ht k<ht t:=by cases t<;>grind [kids,ht]
def zR(t:Tm):(kids t).length<=3:=by cases t<;>simp[kids]
theorem aK0(h:k∈kids t)(x:Tk)(hx:x∈raw k):x∈raw t:=by cases t<;>grind [kids,raw]
def vL(t:Tm)(l:List Tk):Prop:=l.Pairwise (λx y=>xM x y=true)/\∀x,x∈l↔x∈raw t
def aMe(h:xM x y=true):xM y x=false:=by
 unfold xM at h⊢;by_cases e:x.1=y.1
 ·rw[Ab1 e]at h;rw[Ab1 e.symm];exact aCx _ _ h
 ·rw[Ab0 e,Ab7]at h;rw[Ab0 (Dc e),decide_eq_false_iff_not]
  lia
def aNq(x:Tk):Prop:=1<=x.1/\x.1<=3/\∀s∈x.2, -9<=s/\s<=9
def Wf:Tm->Prop
 |.num n=> -1000000000000<=n/\n<=1000000000000
 |.take _ _=>True
 |.bin _ a b=>Wf a/\Wf b
theorem aXb(h:k∈kids t)(w:Wf t):Wf k:=by cases t<;>grind [kids,Wf]
def aH5(t:Tm):Prop:=Wf t/\∀x∈raw t,aNq x/\1<=x.2.length/\x.2.length<=3
def aH5.kid(h:k∈kids t)(a:aH5 t):aH5 k:=#[aXb h a.1,λx hx=>a.2 x (aK0 h x hx)]
end KR
namespace Q
variable {W B:Addr->Prop}{ns:List Int}{l:List Tk}{t:Tm}{n:Nat}{r:Int}
open PySem PyProof.Rows L2
def top(i:Nat):Stmt:=PySem.Challenge.pw_slanttiles_k72_whole_waits_only_delay.main.body.getD i (.Pass #[0,0,0,0])
abbrev oK:Stmt:=top 8
abbrev mR:Stmt:=top 9
abbrev uY:Stmt:=top 11
abbrev tH:Stmt:=top 12
abbrev eV:Stmt:=inClass (top 18) 0
abbrev tG:Stmt:=top 19
abbrev lX:Stmt:=top 20
abbrev kY:Stmt:=top 21
abbrev oH:Stmt:=top 22
abbrev oN:Stmt:=top 23
abbrev xW:Stmt:=top 24
abbrev oJ:Stmt:=top 25
abbrev qX:Stmt:=top 26
abbrev rB:Stmt:=top 28
abbrev iK:Stmt:=top 29
abbrev nP:Stmt:=top 31
abbrev tL:Stmt:=top 32
abbrev qZ:Stmt:=top 33
abbrev mU:Stmt:=top 34
abbrev vA:Stmt:=top 35
abbrev uZ:Stmt:=top 36
abbrev mL:Stmt:=inClass (top 45) 0
abbrev gQ:Stmt:=inClass (top 45) 1
abbrev mO:Stmt:=inClass (top 45) 4
abbrev jK:Stmt:=inClass (top 45) 5
abbrev jL:Stmt:=inClass (top 45) 6
abbrev jG:Stmt:=inClass (top 46) 0
abbrev fD:Stmt:=inClass (top 46) 1
abbrev lW:Stmt:=inClass (top 47) 0
abbrev gP:Stmt:=inClass (top 47) 1
abbrev mK:Stmt:=inClass (top 47) 4
abbrev jH:Stmt:=inClass (top 48) 0
abbrev jJ:Stmt:=inClass (top 48) 1
abbrev oM:Stmt:=top 51
abbrev rA:Stmt:=top 52
abbrev lD:Stmt:=top 53
abbrev qY:Stmt:=top 54
abbrev jF:Stmt:=inClass (top 59) 0
abbrev qU:Stmt:=inClass (top 59) 1
abbrev iQ:Stmt:=inClass (top 59) 2
abbrev pG:Stmt:=inClass (top 59) 3
abbrev qW:Stmt:=top 60
abbrev wC:Stmt:=top 61
abbrev aBf:Stmt:=top 64
abbrev lV:Stmt:=inClass (top 71) 0
abbrev qT:Stmt:=inClass (top 71) 1
abbrev iT:Stmt:=inClass (top 71) 2
abbrev jE:Stmt:=inClass (top 71) 3
abbrev gO:Stmt:=inClass (top 71) 4
abbrev pH:Stmt:=top 72
abbrev xX:Stmt:=top 73
abbrev tK:Stmt:=top 74
abbrev nO:Stmt:=top 76
abbrev tE:Stmt:=top 77
abbrev tD:Stmt:=top 78
abbrev jN:Stmt:=top 79
abbrev lC:Stmt:=top 80
abbrev mQ:Stmt:=top 81
abbrev kW:Stmt:=top 84
abbrev jM:Stmt:=top 85
abbrev fG:Stmt:=top 86
abbrev iJ:Stmt:=top 87
abbrev fH:Stmt:=top 88
abbrev yS:Stmt:=top 89
structure Txt(mg:Str->#v[10]):Prop where
 isinstance:mg "isinstance"=none
 int:mg "int"=none
 bool:mg "bool"=none
 str:mg "str"=none
 tuple:mg "tuple"=none
 list:mg "list"=none
 len:mg "len"=none
 range:mg "range"=none
 enumerate:mg "enumerate"=none
 max:mg "max"=none
 min:mg "min"=none
 sorted:mg "sorted"=none
 sum:mg "sum"=none
 set:mg "set"=none
 all:mg "all"=none
 any:mg "any"=none
 zip:mg "zip"=none
 abs:mg "abs"=none
 dict:mg "dict"=none
 c_MOST_PIECES:∃t,mg "MOST_PIECES"=some (.int 120 t)
 c_MOST_HANDS:∃t,mg "MOST_HANDS"=some (.int 4 t)
 c_MOST_WAITS:∃t,mg "MOST_WAITS"=some (.int 400 t)
 c_GREATEST_SLOT:∃t,mg "GREATEST_SLOT"=some (.int 119 t)
 c_GREATEST_NUMBER:∃t,mg "GREATEST_NUMBER"=some (.int 1000000000000 t)
 c_GREATEST_BACK:∃t,mg "GREATEST_BACK"=some (.int 3 t)
 c_GREATEST_STEP:∃t,mg "GREATEST_STEP"=some (.int 9 t)
 c_MOST_STEPS:∃t,mg "MOST_STEPS"=some (.int 3 t)
 c_MOST_DEPTH:∃t,mg "MOST_DEPTH"=some (.int 12 t)
 c_MOST_PARTS:∃t,mg "MOST_PARTS"=some (.int 60 t)
 c_MOST_TAKES:∃t,mg "MOST_TAKES"=some (.int 6 t)
 c_GREATEST_MODULUS:∃t,mg "GREATEST_MODULUS"=some (.int 1000000000 t)
 c_MOST_ROUNDS:∃t,mg "MOST_ROUNDS"=some (.int 12 t)
 c_MOST_SPOTS:∃t,mg "MOST_SPOTS"=some (.int 120 t)
 c_GREATEST_FIXED:∃t,mg "GREATEST_FIXED"=some (.int 1000000000 t)
 c_MOST_LINES:∃t,mg "MOST_LINES"=some (.int 3 t)
 c_GREATEST_SIZE:∃t,mg "GREATEST_SIZE"=some (.int 9 t)
 c_MOST_PLACES:∃t,mg "MOST_PLACES"=some (.int 40 t)
variable {P:An}{w:Bh}{K:Ad}{mg:Str->#v[10]}{base:Heap}{f:Addr}{fd:Br}
abbrev Fv:=List U->(Sl->Prop)->Prop
def bCr:U->Bool
 |.v (.int _)=>true
 |_=>false
def aOw:Fv:=λus R=>∃u t,us=[u]/\tyU u=some t/\R (.sh (.b (bCr u)))
def aG7:aQ ["thing"] ["thing"] (aC uY):={}
def aQc(F:Fun K "is_whole" "is_whole" uY f fd)(T:Txt mg):↥1 f fd ["thing"] (spV aOw):=by
 refine vfn F aG7 (λae A outer s H E hr=>(aG (aU (lY (iU .int nofun T.isinstance T.int Sq (aA 0)) (lZ (aY9 (iU .bl nofun T.isinstance T.bool boot_bool (aA 0)))))))) ?_;rintro _ R ⟨u,t,rfl,ht,q⟩;unfold tyU at ht;split at ht<;>cases ht<;>first|exact#[rfl,_,rfl,λ_=>#[_,rfl,q],nofun]|exact#[rfl,_,rfl,nofun,λ_=>q]
def isIn(u:U)(a b:Int):Bool:=match u with
 |.v (.int i)=>decide (a<=i) && decide (i<=b)
 |_=>false
def fP:Fv:=λus R=>∃u t a b,us=[u,.n a,.n b]/\tyU u=some t/\R (.sh (.b (isIn u a b)))
def aEz:aQ ["thing","least","most"] ["thing","least","most"] (aC tH):={}
def aMy(F:Fun K "is_within" "is_within" tH f fd)(aIb:⇑1 "is_whole" ["thing"] (spV aOw)):↥2 f fd ["thing","least","most"] (spV fP):=by
 refine vfn F aEz (λae A outer s H E hr=>(aG (aU (lY (aL aIb (hr.mono ⋯) rfl (aB (aA 0) aF)) (lZ (aRy aA7 aA7 cU cU (aA 1) (aA 0) (aA 2))))))) ?_;rintro _ R ⟨u,t,a,b,rfl,ht,q⟩;refine#[rfl,u,t,rfl,ht,?_];match u,q with
 |.v (.int i),q=>exact#[λ_=>#[λh=>by simp only[isIn,h,Zp]at q;exact q,λh=>by simp only[isIn,h,Lo]at q;exact q],nofun]
 |.v .non,q=>exact#[nofun,λ_=>q]
 |.v (.bl _),q=>exact#[nofun,λ_=>q]
 |.v (.str _),q=>exact#[nofun,λ_=>q]
 |.tp _,q=>exact#[nofun,λ_=>q]
 |.ls _,q=>exact#[nofun,λ_=>q]
 |.dk _ _,q=>exact#[nofun,λ_=>q]
inductive Rim where
 |fixed (v:Int)
 |mirror
 |round
def Rim.u:Rim->U
 |.fixed v=> .tp [.s "fixed",.n v]
 |.mirror=> .tp [.s "mirror"]
 |.round=> .tp [.s "round"]
def Rim.ok:Rim->Prop
 |.fixed v=>0<=v/\v<=1000000000
 |_=>True
def aOn:Fv:=λus R=>∃r:Rim,us=[r.u]/\r.ok/\R #v[y]
abbrev PW3:List Str:=["thing","least","most"]
def aM9:aQ ["thing"] ["thing"] (aC aBf):={}
def aPz(F:Fun K "is_rim" "is_rim" aBf f fd)(c_is_within:#v[j])(T:Txt mg):↥3 f fd ["thing"] (spV aOn):=by
 obtain⟨_,g_GREATEST_FIXED⟩:=T.c_GREATEST_FIXED;refine vfn F aM9 (λae A outer s H E hr=>(aD (cB (iM (jV (cI (cL (iU .tp nofun T.isinstance T.tuple Os (aA 0)))) (fK (bK (eO (huD hr)) dC #v[c] aH)))) (aG (aU jR)) bA) (aD (cB (cI (cL (iU .str nofun T.isinstance T.str boot_str #v[u]))) (aG (aU jR)) bA) (aD (cB (bK (eO (huD hr)) dC #v[u] rH) (aG (aU (lY (iB (eO (huD hr)) dC #v[c] aH) (lZ (aL c_is_within (hr.mono ⋯) rfl (aB #v[u] (aB aH (aB (dB g_GREATEST_FIXED) aF)))))))) bA) (aG (aU (lY (iB (eO (huD hr)) dC #v[c] aH) (lZ (iB (aXl (huD hr)) aPp #v[u] (dO (aB rH (aB rH aF)))))))))))) ?_;rintro _ R ⟨r,rfl,ok,q⟩;match r,ok with
 |.fixed v,ok=>
  refine#[rfl,_,rfl,nofun,λ_=>#[trivial,trivial,nofun,λ_=>?_]];refine#[_,rfl,_,rfl,nofun,λ_=>?_];refine#[_,rfl,trivial,trivial,λ_=>?_,λh=>Ab2 h #v[4]];refine#[trivial,trivial,λ_=>#[_,rfl,_,_,_,_,rfl,rfl,?_],nofun];simp only[isIn,ok.1,ok.2,decide_true,Zp];exact q
 |.mirror,_=>
  refine#[rfl,_,rfl,nofun,λ_=>#[trivial,trivial,nofun,λ_=>?_]];refine#[_,rfl,_,rfl,nofun,λ_=>?_];refine#[_,rfl,trivial,trivial,λh=>Ab2 h #v[4],λ_=>?_];refine#[trivial,trivial,λ_=>#[_,rfl,trivial,#[trivial,trivial,trivial],?_],λh=>Ab2 h #v[4]];exact Rbl q #v[4]
 |.round,_=>
  refine#[rfl,_,rfl,nofun,λ_=>#[trivial,trivial,nofun,λ_=>?_]];refine#[_,rfl,_,rfl,nofun,λ_=>?_];refine#[_,rfl,trivial,trivial,λh=>Ab2 h #v[4],λ_=>?_];refine#[trivial,trivial,λ_=>#[_,rfl,trivial,#[trivial,trivial,trivial],?_],λh=>Ab2 h #v[4]];exact Rbl q #v[4]
def oG(ns:List Int):Int:=ns.foldl (λa n=>a*n) 1
structure iW(ns:List Int):Prop where
 ok:∀n∈ns,1<=n/\n<=9
 l1:1<=ns.length
 l3:ns.length<=3
 mn:oG ns<=40
def aOs:Fv:=λus R=>∃ns:List Int,us=[.ls #v[x]]/\(∀n∈ns,1<=n/\n<=9)/\ns.length<=3/\R (.sh (.n (oG ns)))
def rD:aQ ["sizes","many","size"] ["sizes"] (aC xX):={}
def aTf(F:Fun K "product" "product" xX f fd):↥1 f fd ["sizes"] (spV aOs):=by
 refine vfn F rD (λae A outer s H E hr=>(aD (aZ (i:=1) rD.nd aH) (aD (cO Bl rfl (aX (aA 0)) (cR (i:=2) rD.nd) (aG (aZ (i:=1) rD.nd (cT pD aGv (aA 1) (aA 2))))) (aG (jU 1))))) ?_;rintro _ R ⟨ns,rfl,ok,_,q⟩;refine#[rfl,?_];refine bG (λl ρ=>∃(ms:List Int)(a:Int)(x y:Sl),l=ms.map U.n/\ρ=[x,.sh (.n a),y]/\(∀n∈ms,1<=n/\n<=9)/\R (.sh (.n (ms.foldl (λa n=>a*n) a)))) ?_ ?_ #[ns,1,_,_,rfl,rfl,ok,q]
 ·rintro ρ ⟨ms,a,x,y,e,rfl,_,q⟩;obtain rfl:=Bf.mp e.symm;exact q
 ·rintro u r ρ ⟨ms,a,x,y,e,rfl,h,q⟩ ih;obtain⟨n,ms,rfl,rfl,rfl⟩:=Nr.mp e.symm;have hn:=h n Ah;exact#[.inr #[∅,∅],ih _ #[ms,_,_,_,rfl,rfl,λm hm=>h m (Af _ hm),q]]
def grU(C:Addr)(ns:List Int)(rs:List Rim):U:=.ob C ["sizes","rims"] [.ls #v[x],.ls (rs.map Rim.u)]
def aOj:Fv:=λus R=>∃(ns:List Int)(rs:List Rim),us=[.ls #v[x],.ls (rs.map Rim.u)]/\(∀n∈ns,1<=n/\n<=9)/\1<=ns.length/\ns.length<=3/\rs.length=ns.length/\(∀r∈rs,r.ok)/\R (.sh .no)
def nQ:aQ ["sizes","rims","line","rim"] ["sizes","rims"] (aC pH):={}
def aPu(F:Fun K "check_lines" "check_lines" pH f fd)(c_is_within:#v[j])(aN5:⇑3 "is_rim" ["thing"] (spV aOn))(T:Txt mg):↥4 f fd ["sizes","rims"] (spV aOj):=by
 obtain⟨_,g_MOST_LINES⟩:=T.c_MOST_LINES;obtain⟨_,g_GREATEST_SIZE⟩:=T.c_GREATEST_SIZE;refine vfn F nQ (λae A outer s H E hr=>(aD (cB (iM (jV (cI (aHp aA7 aA7 cU cU aH #v[c] (dB g_MOST_LINES))) (fK (bK (lU (huD hr)) dC (aO aK bF T.len Cf (aJ (aA 1) aM)) #v[c])))) (aG jT) bA) (aG (cO Bl rfl (aE6 T.enumerate (aB (aA 1) aF)) (rJ rfl (cF (i:=2) nQ.nd (cF (i:=3) nQ.nd mX))) (aG (cB (iM (jV (cI (cL (aL c_is_within (hr.mono ⋯) rfl (aB (bI aY bH (aA 0) (aA 2)) (aB aH (aB (dB g_GREATEST_SIZE) aF)))))) (fK (cI (cL (aL aN5 (hr.mono ⋯) rfl (aB (aA 3) aF))))))) (aG jT) bA)))))) ?_;rintro _ R ⟨ns,rs,rfl,ok,l1,l3,el,rk,q⟩;refine#[rfl,?_];have e1:#v[x].length=ns.length:=Ab ..;have e2:(rs.map Rim.u).length=ns.length:=by rw[Ab,el]
 refine#[λ_=>#[λh=>?_,λ_=>#[trivial,trivial,λh=>?_,λ_=>?_]],λh=>?_]
 ·simp at h;lia
 ·simp only[U.eq,U.d,D.eq,eqV,Sl.rd]at h;simp[el]at h
 ·refine bG (λl ρ=>∃(k:Nat)(ss:List Rim)(x y:Sl),l=(ss.map Rim.u |>.zipIdx k).map (λx=> .tp [.n (x.2:Nat),x.1])/\ρ=[.sh (.ls #v[x]),.sh (.ls (rs.map Rim.u)),x,y]/\k+ss.length=ns.length/\∀r∈ss,r.ok) ?_ ?_ #[0,rs,_,_,rfl,rfl,∅,rk]
  ·rintro ρ ⟨k,ss,x,y,e,rfl,_⟩;exact q
  ·rintro u r ρ ⟨k,ss,x,y,e,rfl,hk,ho⟩ ih;match ss,e,hk,ho with
   |s::ss,e,hk,ho=>
    cases e;have hl:k<ns.length:=by rw[Ao]at hk;lia
    have hn:=ok _ (Kj hl);refine#[rfl,U.n ns[k],bQ (by rw[Bg,Ag hl];rfl),_,_,_,_,rfl,rfl,?_];refine#[λh=>?_,λ_=>#[s,rfl,ho s Ah,nofun,λ_=>ih _ #[k+1,ss,_,_,rfl,rfl,by rw[Ao]at hk;lia,λr hr=>ho r (Af _ hr)]]];simp[isIn,hn.1,hn.2]at h
 ·simp at h;lia
def aIu(C:Addr):Fv:=λus R=>∃ns rs,us=[grU C ns rs]/\R (.sh (.n ns.length))
def aB0:aQ ["self"] ["self"] (aC qT):={}
def aP3(F:Fun K "lines" "Grid.lines" qT f fd)(cG:Cfl K C ["sizes","rims"])(T:Txt mg):↥1 f fd ["self"] (spV (aIu C)):=by
 refine vfn F aB0 (λae A outer s H E hr=>(aG (aU (aO aK bF T.len Cf (aJ (dX cG (aA 0)) aM))))) ?_;rintro _ R ⟨ns,rs,rfl,q⟩;refine#[rfl,rfl,.inl #[rfl,?_]];rw[<-Ab (f:=U.n)]at q;exact q
def aVv(C:Addr):Fv:=λus R=>∃ns rs,us=[grU C ns rs]/\iW ns/\R (.sh (.n (oG ns)))
def uB:aQ ["self"] ["self"] (aC iT):={}
def aTe(F:Fun K "places_many" "Grid.places_many" iT f fd)(cG:Cfl K C ["sizes","rims"])(xF:⇑1 "product" ["sizes"] (spV aOs)):↥2 f fd ["self"] (spV (aVv C)):=by
 refine vfn F uB (λae A outer s H E hr=>(aG (aU (aL xF (hr.mono ⋯) rfl (aB (dX cG (aA 0)) aF))))) ?_;rintro _ R ⟨ns,rs,rfl,g,q⟩;exact#[rfl,rfl,.inl #[rfl,ns,rfl,g.ok,g.l3,q]]
open PySem PyProof.Rows L2 KR
def enc(N:Cn):Tm->U
 |.num n=> .ob N.num ["value"] [.n n]
 |.take b ss=> .ob N.take ["back","steps"] [.n b,.tp (ss.map U.n)]
 |.bin k a b=> .ob (N.bin k) ["one","other"] [enc N a,enc N b]
def gG{N:Cn}{m:Str}{F:Addr->Fv}{G:TVa}{ρ:EV}{R:Sl->Prop}(t:Tm)(h1:(["value","back","steps","one","other"]:List Str).elem m=false)(h:G ρ λvs=>F (cls N t) (enc N t::vs) R):mOb (IsC N) m F G ρ R (enc N t):=by
 have hc:=isC N t;have k:∀ns:List Str,(∀x∈ns,x∈(["value","back","steps","one","other"]:List Str))->ns.elem m=false:=λns hn=>by
  cases q:ns.elem m with
  |false=>rfl
  |true=>
   have:=hn m (Ze.mp q);rw[Ze.mpr this]at h1;cases h1
 cases t with
 |num n=>exact#[hc,k _ (by simp),h]
 |take b ss=>exact#[hc,k _ (by simp),h]
 |bin j a b=>exact#[hc,k _ (by simp),h]
def lR(N:Cn)(C:Addr):Fv:=λus R=>∃t,us=[enc N t]/\cls N t=C/\R (.ow ((kids t).map (enc N)))
variable {f C:Addr}{N:Cn}
def aB3:aQ ["self"] ["self"] (aC mL):={}
def aC1(F:Fun K "inner" "Term.inner" mL f fd)(hC:∀t,cls N t=C->kids t=[]):↥1 f fd ["self"] (spV (lR N C)):=by
 refine vfn F aB3 (λae A outer s H E hr=>(aG (aU (bL aF)))) ?_;rintro _ R ⟨t,rfl,e,q⟩;rw[hC t e]at q;exact#[rfl,q]
def zJ:aQ ["self"] ["self"] (aC jJ):={}
def aMq(F:Fun K "inner" "Paired.inner" jJ f fd)(cP:Cfl K (N.bin k) ["one","other"])(hC:∀t,cls N t=N.bin k->∃a b,t=.bin k a b):↥1 f fd ["self"] (spV (lR N (N.bin k))):=by
 refine vfn F zJ (λae A outer s H E hr=>(aG (aU (bL (aB (dX cP (aA 0)) (aB (dX cP (aA 0)) aF)))))) ?_;rintro _ R ⟨t,rfl,e,q⟩;obtain⟨a,b,rfl⟩:=hC t e;exact#[rfl,rfl,.inl #[rfl,rfl,.inr #[by decide+kernel,.inl #[rfl,q]]]]
def aCz(h:l.Pairwise λx y=>xM x y=true):l.Nodup:=h.imp λ{x y} h z=>by
 subst z;rw[aMe h]at h;cases h
def Few(t:Tm):Prop:=∃ks:List Tk,ks.length<4/\∀x∈raw t,x∈ks
def aE3(f:Few t)(h:vL t l):l.length<=3:=by
 obtain⟨ks,kl,km⟩:=f;have:=(aCz h.1).length_le_of_subset (l₂:=ks) λx hx=>km x ((h.2 x).mp hx)
 lia
theorem aQ5(h:∀b ss,t≠.take b ss)(x:Tk):x∈raw t↔ ∃k∈kids t,x∈raw k:=by cases t<;>simp[raw,kids]<;>grind
def zO(t:Tm)(h:ht t<=d+1):∀k∈kids t,ht k<=d:=λk hk=>by have:=aXa hk;lia
def sV(N:Cn)(d:Nat)(C:Addr):Fv:=λus R=>∃t,us=[enc N t]/\cls N t=C/\ht t<=d/\Few t/\∀ys,vL t ys->R (.ow (ys.map tkU))
abbrev lQ(P:An)(w:Bh)(K:Ad)(mg:Str->#v[10])(base:Heap)(N:Cn)(k:Nat)(m:Str)(F:Addr->Fv):Prop:=Dis P w K mg base CX0 k (IsC N) m ["self"] λC=>spV (F C)
variable {d:Nat}
def pI:aQ ["self","pairs","part"] ["self"] (aC mO):={}
def aMx(F:Fun K "takes" "Term.takes" mO f fd)(hC:∀t,cls N t=C->∀b ss,t≠.take b ss)(dF:#v[w])(qL:lQ P w K mg base N (d+1) "takes" (sV N d))(T:Txt mg):↥(d+2) f fd ["self"] (spV (sV N (d+1) C)):=by
 refine vfn F pI (λae A outer s H E hr=>(aD (aZ (i:=1) pI.nd (bL aF)) (aD (cO Bl rfl (aX (cD (aA 0) dF (hr.mono ∅))) (cR (i:=2) pI.nd) (aG (yI 1 (cD (aA 2) qL (hr.mono ∅))))) (aG (aU (aUu hr rfl T.sorted T.set (aJ (aA 1) aM))))))) ?_;rintro _ R ⟨t,rfl,e,hd,fw,q⟩;refine#[rfl,gG t #v[4] #[t,rfl,rfl,?_]];refine bG (λl ρ=>∃(ks js:List Tm)(ps:List Tk)(x:Sl),l=ks.map (enc N)/\js++ks=kids t/\ρ=[.sh (enc N t),.ow (ps.map tkU),x]/\ps.length<=17*js.length/\∀y,y∈ps↔ ∃k∈js,y∈raw k) ?_ ?_ #[kids t,[],[],_,rfl,rfl,rfl,Ak _,by simp]
 ·rintro ρ ⟨ks,js,ps,x,el,ej,rfl,pl,pm⟩;obtain rfl:=Bf.mp el.symm;rw[Bk]at ej;subst ej;have kl:=zR t;have rk:=aQ5 (hC t e);exact#[ps,rfl,∅,let⟨zs,zl,zm⟩:=fw;#[zs,zl,λy hy=>zm y ((rk y).mpr ((pm y).mp hy))],λys pw ym=>q ys #[pw,λy=>(ym y).trans ((pm y).trans (rk y).symm)]]
 ·rintro u r ρ ⟨ks,js,ps,x,el,ej,rfl,pl,pm⟩ ih;obtain⟨k,ks,rfl,rfl,rfl⟩:=Nr.mp el.symm;have hk:k∈kids t:=by rw[<-ej];simp
  have fk:Few k:=let⟨zs,zl,zm⟩:=fw;#[zs,zl,λy hy=>zm y (aK0 hk y hy)];refine gG k #v[4] #[k,rfl,rfl,zO t hd k hk,fk,λys ik=>?_];have yl:=aE3 fk ik;have kl:=zR t;have jl:js.length+(ks.length+1)<=3:=by rw[<-ej,Am,Ao]at kl;exact kl
  refine#[by rw[Ab,Ab];lia,ih _ #[ks,js++[k],ps++ys,_,rfl,by rw[Cz];exact ej,by rw[Co];rfl,by rw[Am,Am];show _<=17*(js.length+1);lia,λy=>?_]];rw[Bd,pm y,ik.2 y];constructor
  ·rintro(⟨j,hj,hy⟩|hy)
   ·exact#[j,Bo _ hj,hy]
   ·exact#[k,by simp,hy]
  ·rintro⟨j,hj,hy⟩;rcases Bd.mp hj with hj|hj
   ·exact .inl #[j,hj,hy]
   ·rw[Ap.mp hj]at hy;exact .inr hy
def aB1:aQ ["self"] ["self"] (aC mK):={}
def aMn(F:Fun K "takes" "Take.takes" mK f fd)(cK:Cfl K N.take ["back","steps"])(hC:∀t,cls N t=N.take->∃b ss,t=.take b ss):↥(d+2) f fd ["self"] (spV (sV N (d+1) N.take)):=by
 refine vfn F aB1 (λae A outer s H E hr=>(aG (aU (bL (aB (dO (aB (dX cK (aA 0)) (aB (dX cK (aA 0)) aF))) aF))))) ?_;rintro _ R ⟨t,rfl,e,hd,fw,q⟩;obtain⟨b,ss,rfl⟩:=hC t e;exact#[rfl,rfl,.inl #[rfl,rfl,.inr #[by decide+kernel,.inl #[rfl,q [(b,ss)] #[Mg ..,λ_=>Mo]]]]]
def aF7(N:Cn)(g:Tm->Nat)(d:Nat)(C:Addr):Fv:=λus R=>∃t,us=[enc N t]/\cls N t=C/\ht t<=d/\rT t<=200/\R (.sh (.n (g t)))
theorem aBa{t k:Tm}(h:k∈kids t):rT k<=rT t:=by cases t<;>grind [kids,rT]
def aPc(t:Tm):∀m:Int,(kids t=[]/\m=0)∨(m∈(kids t).map (λk=>(ht k:Int))/\∀a∈(kids t).map (λk=>(ht k:Int)),a<=m)->1+m=(ht t:Int):=by
 intro m h;cases t with
 |num n=>rcases h with ⟨_,h⟩|⟨h,_⟩<;>simp[kids,ht]at h⊢;lia
 |take b ss=>rcases h with ⟨_,h⟩|⟨h,_⟩<;>simp[kids,ht]at h⊢;lia
 |bin k a b=>rcases h with ⟨h,_⟩|⟨h,g⟩<;>simp[kids,ht]at h⊢;simp[kids]at g;lia
def aQu(t:Tm):1+((kids t).map (λk=>(rT k:Int))).sum=(rT t:Int):=by
 cases t<;>simp[kids,rT]<;>lia
def ints_map{g:Tm->Nat}(ks:List Tm):ks.map (λk=>U.n (g k))=(ks.map λk=>(g k:Int)).map U.n:=by rw[Ba];rfl
def aGk{g:Tm->Nat}{h:U->(Option U->Prop)->Prop}{R:List U->Prop}(hf:∀k∈kids t,∀c:Option U->Prop,c (some (.n (g k)))->h (enc N k) c)(q:R (((kids t).map λk=>(g k:Int)).map U.n)):jA h ((kids t).map (enc N)) [] R:=by
 rw[<-ints_map]at q;revert hf q;generalize kids t=ks;have key:∀(ks:List Tm)(af:List U),(∀k∈ks,∀c:Option U->Prop,c (some (.n (g k)))->h (enc N k) c)->R (af++ks.map λk=>U.n (g k))->jA h (ks.map (enc N)) af R:=by
  intro ks;induction ks with
  |nil=>exactλaf _ q=>by rw[Gz,Bk]at q;exact q
  |cons k ks ih=>exactλaf hf q=>hf k Ah _ (ih _ (λj hj=>hf j (Af _ hj)) (by rw[Cz];exact q))
 exactλhf q=>key ks [] hf q
abbrev aDj:List Str:=["self"]
def aB2:aQ ["self"] ["self"] (aC jK):={}
def aMu(F:Fun K "depth" "Term.depth" jK f fd)(dF:#v[w])(aDe:lQ P w K mg base N (d+1) "depth" (aF7 N ht d))(T:Txt mg):↥(d+2) f fd ["self"] (spV (aF7 N ht (d+1) C)):=by
 refine vfn F aB2 (λae A outer s H E hr=>(aG (aU (cT dG fB aH (wN rfl T.max (aJ (dU (own:=["part"]) (cap:=[]) (aC jK) aDj rfl rfl (λx h=>aV h) #v[4] rfl (vic (aX (cD (aA 0) dF (hr.mono ∅)))) ↑(aW (i:=0) (~~~["part"]) rfl (Dl rfl) (Dr rfl)) (bC ⋯) ↑(cD (aA 0) aDe (hr.mono ∅))) aM) aH))))) ?_;rintro _ R ⟨t,rfl,e,hd,hp,q⟩;refine#[rfl,gG t #v[4] #[t,rfl,rfl,?_]];refine#[by have:=zR t;rw[Ab];lia,aGk (g:=ht) (λk hk c hc=>gG k #v[4] #[k,rfl,rfl,zO t hd k hk,by have:=aBa hk;lia,hc]) ?_];refine#[_,rfl,λh=>?_,λm hm ha=>?_]
 ·have:=aPc t 0 (.inl #[Bf.mp h,rfl]);rw[<-this]at q;exact q
 ·have:=aPc t m (.inr #[hm,ha]);rw[<-this]at q;exact q
abbrev aDk:List Str:=["self"]
def aB4:aQ ["self"] ["self"] (aC jL):={}
def aMw(F:Fun K "parts" "Term.parts" jL f fd)(dF:#v[w])(aDf:lQ P w K mg base N (d+1) "parts" (aF7 N rT d))(T:Txt mg):↥(d+2) f fd ["self"] (spV (aF7 N rT (d+1) C)):=by
 refine vfn F aB4 (λae A outer s H E hr=>(aG (aU (cT dG fB aH (aO (vQ rfl) aD3 T.sum Yu (aJ (dU (own:=["part"]) (cap:=[]) (aC jL) aDk rfl rfl (λx h=>aV h) #v[4] rfl (vic (aX (cD (aA 0) dF (hr.mono ∅)))) ↑(aW (i:=0) (~~~["part"]) rfl (Dl rfl) (Dr rfl)) (bC ⋯) ↑(cD (aA 0) aDf (hr.mono ∅))) aM)))))) ?_;rintro _ R ⟨t,rfl,e,hd,hp,q⟩;have kl:=zR t;refine#[rfl,gG t #v[4] #[t,rfl,rfl,?_]];refine#[by rw[Ab];lia,aGk (g:=rT) (λk hk c hc=>gG k #v[4] #[k,rfl,rfl,zO t hd k hk,by have:=aBa hk;lia,hc]) ?_];refine#[_,rfl,by rw[Ab];lia,λn hn=>?_,?_]
 ·obtain⟨k,hk,rfl⟩:=Aj.mp hn;have:=aBa hk
  lia
 ·have:=aQu t;rw[<-this]at q;exact q
def aIx:Fv:=λus R=>∃ss:List Int,us=[.tp (ss.map U.n)]/\1<=ss.length/\ss.length<=3/\(∀s∈ss, -9<=s/\s<=9)/\R #v[y]
abbrev aFk:List Str:=["thing"]
def aEx:aQ ["thing"] ["thing"] (aC oM):={}
def aP9(F:Fun K "are_steps" "are_steps" oM f fd)(c_is_within:#v[j])(T:Txt mg):↥3 f fd ["thing"] (spV aIx):=by
 obtain⟨_,g_MOST_STEPS⟩:=T.c_MOST_STEPS;obtain⟨_,g_GREATEST_STEP⟩:=T.c_GREATEST_STEP;refine vfn F aEx (λae A outer s H E hr=>(aD (cB (iM (jV (cI (cL (iU .tp nofun T.isinstance T.tuple Os (aA 0)))) (fK (cI (aHp aA7 aA7 cU cU aH #v[c] (dB g_MOST_STEPS)))))) (aG (aU jR)) bA) (aG (aU (aO iZ (qP rfl) T.all Nh (aJ (dU (own:=["step"]) (cap:=[]) (aC oM) aFk rfl rfl (λx h=>aV h) #v[4] rfl (vic (aR7 (aA 0))) ↑(aW (i:=0) (~~~["step"]) rfl (Dl rfl) (Dr rfl)) (bC ⋯) ↑(aL c_is_within (hr.mono ⋯) rfl (aB (aA 0) (aB (aR3 (dB g_GREATEST_STEP)) (aB (dB g_GREATEST_STEP) aF))))) aM)))))) ?_;rintro _ R ⟨ss,rfl,l1,l3,hs,q⟩;have e1:(ss.map U.n).length=ss.length:=Ab ..;refine#[rfl,_,rfl,nofun,λ_=>#[λ_=>#[λh=>?_,λ_=>?_],λh=>?_]]
 ·simp at h;lia
 ·refine#[∅,cC (h:=λ_=> .b true) (λu hu k hk=>?_) ?_]
  ·obtain⟨s,hs',rfl⟩:=Aj.mp hu;have:=hs s hs';refine#[_,_,_,_,rfl,rfl,?_];show k (some (.b (isIn (.n s) (-9) 9)));rw[show isIn (.n s) (-9) 9=true by simp[isIn,this.1,this.2]];exact hk
  ·refine#[ss.map λ_=>true,by rw[Ba,Ba];rfl,?_];exact Rbl q (by simp)
 ·simp at h;lia
def uV(N:Cn)(C:Addr):Fv:=λus R=>∃t,us=[enc N t]/\cls N t=C/\aH5 t/\R (.sh .no)
def wI:aQ ["self"] ["self"] (aC gQ):={}
def aMv(F:Fun K "own_fault" "Term.own_fault" gQ f fd):↥4 f fd ["self"] (spV (uV N C)):=by
 refine bJ.mono (vfn F wI (λae A outer s H E(hr:eZ 0 _)=>(aG (aU tO))) ?_) ⋯;rintro _ R ⟨t,rfl,e,ok,q⟩;exact#[rfl,q]
def uC:aQ ["self"] ["self"] (aC fD):={}
def aMo(F:Fun K "own_fault" "Number.own_fault" fD f fd)(cN:Cfl K N.num ["value"])(hC:∀t,cls N t=N.num->∃n,t=.num n)(c_is_within:#v[j])(T:Txt mg):↥4 f fd ["self"] (spV (uV N N.num)):=by
 obtain⟨_,g_GREATEST_NUMBER⟩:=T.c_GREATEST_NUMBER;refine vfn F uC (λae A outer s H E hr=>(aD (cB (cL (aL c_is_within (hr.mono ⋯) rfl (aB (dX cN (aA 0)) (aB (aR3 (dB g_GREATEST_NUMBER)) (aB (dB g_GREATEST_NUMBER) aF))))) (aG (aU tO)) bA) (aG (aU rH)))) ?_;rintro _ R ⟨t,rfl,e,ok,q⟩;obtain⟨n,rfl⟩:=hC t e;have h:=ok.1;simp only[Wf]at h;refine#[rfl,rfl,.inl #[rfl,_,_,_,_,rfl,rfl,λ_=>q,λz=>?_]];simp[isIn,h.1,h.2]at z
def wH:aQ ["self"] ["self"] (aC gP):={}
def aMm(F:Fun K "own_fault" "Take.own_fault" gP f fd)(cK:Cfl K N.take ["back","steps"])(hC:∀t,cls N t=N.take->∃b ss,t=.take b ss)(c_is_within:#v[j])(aFt:⇑3 "are_steps" ["thing"] (spV aIx))(T:Txt mg):↥4 f fd ["self"] (spV (uV N N.take)):=by
 obtain⟨_,g_GREATEST_BACK⟩:=T.c_GREATEST_BACK;refine vfn F wH (λae A outer s H E hr=>(aD (cB (cI (cL (aL c_is_within (hr.mono ⋯) rfl (aB (dX cK (aA 0)) (aB aH (aB (dB g_GREATEST_BACK) aF)))))) (aG (aU rH)) bA) (aD (cB (cI (cL (aL aFt (hr.mono ⋯) rfl (aB (dX cK (aA 0)) aF)))) (aG (aU rH)) bA) (aG (aU tO))))) ?_;rintro _ R ⟨t,rfl,e,ok,q⟩;obtain⟨b,ss,rfl⟩:=hC t e;obtain⟨⟨h1,h2,h3⟩,h4,h5⟩:=ok.2 (b,ss) Ah;refine#[rfl,rfl,.inl #[rfl,_,_,_,_,rfl,rfl,λz=>?_,λ_=>?_]]
 ·simp only at h1 h2;simp[isIn,h1,h2]at z
 ·exact#[rfl,.inr #[by decide+kernel,.inl #[rfl,ss,rfl,h4,h5,h3,nofun,λ_=>q]]]
def fFF(N:Cn)(d:Nat):Fv:=λus R=>∃t,us=[enc N t]/\ht t<=d/\aH5 t/\R (.sh .no)
def nR:aQ ["term","part","fault"] ["term"] (aC lD):={}
def bAo(F:Fun K "first_fault" "first_fault" lD f fd)(oY:⇑(d+4) "first_fault" ["term"] (spV (fFF N d)))(dF:#v[w])(aFc:lQ P w K mg base N 4 "own_fault" (uV N)):↥(d+5) f fd ["term"] (spV (fFF N (d+1))):=by
 refine vfn F nR (λae A outer s H E hr=>(aD (cO Bl rfl (aX (cD (aA 0) dF (hr.mono ∅))) (cR (i:=1) nR.nd) (aD (aZ (i:=2) nR.nd (aL oY (hr.mono ∅) rfl (aB (aA 1) aF))) (aG (cB (aAa (aA 2)) (aG (jU 2)) bA)))) (aG (aU (cD (aA 0) aFc (hr.mono ∅)))))) ?_;rintro _ R ⟨t,rfl,hd,ok,q⟩;refine#[rfl,gG t #v[4] #[t,rfl,rfl,?_]];refine bG (λl ρ=>∃(ks:List Tm)(x y:Sl),l=ks.map (enc N)/\(∀k∈ks,k∈kids t)/\ρ=[.sh (enc N t),x,y]) ?_ ?_ #[kids t,_,_,rfl,λ_ h=>h,rfl]
 ·rintro ρ ⟨ks,x,y,el,hk,rfl⟩;exact gG t #v[4] #[t,rfl,rfl,ok,q]
 ·rintro u r ρ ⟨ks,x,y,el,hk,rfl⟩ ih;obtain⟨k,ks,rfl,rfl,rfl⟩:=Nr.mp el.symm;have kk:=hk k Ah;exact#[k,rfl,zO t hd k kk,ok.kid kk,nofun,λ_=>ih _ #[ks,_,_,rfl,λj hj=>hk j (Af _ hj),rfl]]
def Ln(t:Tm)(n:Nat):Prop:=(n=1∨n=2∨n=3)/\(∀x∈raw t,x.2.length=n)/\∃ks:List Tk,ks.length<=3/\∀x∈raw t,x∈ks
def Ln.few(h:Ln t n):Few t:=let⟨ks,l,m⟩:=h.2.2;#[ks,∅,m]
def aAu(N:Cn)(d:Nat):Fv:=λus R=>∃t n,us=[enc N t]/\ht t<=d/\Ln t n/\∀s,s=.sh .no∨s=.sh (.n (n:Nat))->R s
abbrev aH0:List Str:=["term","counts"]
def yU:aQ ["term","counts"] ["term"] (aC rA):={}
def aJc(F:Fun K "lines_of" "lines_of" rA f fd)(qL:lQ P w K mg base N (d+1) "takes" (sV N d))(T:Txt mg):↥(d+3) f fd ["term"] (spV (aAu N d)):=by
 refine vfn F yU (λae A outer s H E hr=>(aD (aZ (i:=1) yU.nd (aR6 rfl T.sorted T.set (aJ (dU (own:=["take"]) (cap:=[]) (aC rA) aH0 rfl rfl (λx h=>aV h) #v[4] rfl (vic (aX (cD (aA 0) qL (hr.mono ∅)))) ↑(aW (i:=0) (~~~["take"]) rfl (Dl rfl) (Dr rfl)) (bC ⋯) ↑(aO aK bF T.len Cf (aJ #v[u] aM))) aM))) (aD (cB (bK lL cU (aO aK bF T.len Cf (aJ (aA 1) aM)) aH) (aG jT) bA) (aD (cB (bK (eO (huD hr)) dC (aO aK bF T.len Cf (aJ (aA 1) aM)) aH) (aG (aU tO)) bA) (aG (aU (bI aY bH (aA 1) aH))))))) ?_;rintro _ R ⟨t,n,rfl,hd,ln,q⟩;refine#[rfl,gG t #v[4] #[t,rfl,rfl,hd,ln.few,λys ik=>?_]];have yl:=aE3 ln.few ik;refine#[by rw[Ab];lia,cC (h:=λ_=> .n (n:Nat)) (λu hu k hk=>?_) ?_]
 ·obtain⟨y,hy,rfl⟩:=Aj.mp hu;have e:=ln.2.1 y ((ik.2 y).mp hy);refine#[_,rfl,?_];show k (some (.n ((y.2.map U.n).length:Nat)));rw[Ab,e];exact hk
 ·refine#[ys.map λ_=>n,n,by rw[Ba,Ba];rfl,λm hm=>?_,by rcases ln.1 with rfl|rfl|rfl<;>decide,?_]
  ·obtain⟨_,_,rfl⟩:=Aj.mp hm;rfl
  ·generalize decide (0<(ys.map λ_=>n).length)=b;cases b
   ·exact#[nofun,λ_=>#[trivial,trivial,λ_=>q _ (.inl rfl),nofun]]
   ·exact#[nofun,λ_=>#[trivial,trivial,nofun,λ_=>#[_,rfl,q _ (.inr rfl)]]]
def aKo(N:Cn)(d:Nat):Fv:=λus R=>∃t n,us=[enc N t]/\ht t<=d/\aH5 t/\rT t<=60/\Ln t n/\R (.sh .no)
def uM:aQ ["term","fault"] ["term"] (aC qY):={}
def aMk(F:Fun K "check_term" "check_term" qY f fd)(d12:d<=12)(oY:⇑(d+4) "first_fault" ["term"] (spV (fFF N d)))(uR:⇑(d+3) "lines_of" ["term"] (spV (aAu N d)))(qL:lQ P w K mg base N (d+1) "takes" (sV N d))(aDe:lQ P w K mg base N (d+1) "depth" (aF7 N ht d))(aDf:lQ P w K mg base N (d+1) "parts" (aF7 N rT d))(T:Txt mg):↥(d+5) f fd ["term"] (spV (aKo N d)):=by
 obtain⟨_,g_MOST_DEPTH⟩:=T.c_MOST_DEPTH;obtain⟨_,g_MOST_PARTS⟩:=T.c_MOST_PARTS;obtain⟨_,g_MOST_TAKES⟩:=T.c_MOST_TAKES;refine vfn F uM (λae A outer s H E hr=>(aD (aZ (i:=1) uM.nd (aL oY (hr.mono ∅) rfl (aB (aA 0) aF))) (aD (cB (aAa (aA 1)) (aG jT) bA) (aD (bCc (aL uR (hr.mono ∅) rfl (aB (aA 0) aF))) (aD (cB (bK lL cU (cD (aA 0) aDe (hr.mono ∅)) (dB g_MOST_DEPTH)) (aG jT) bA) (aD (cB (bK lL cU (cD (aA 0) aDf (hr.mono ∅)) (dB g_MOST_PARTS)) (aG jT) bA) (aG (cB (bK lL cU (aO aK bF T.len Cf (aJ (cD (aA 0) qL (hr.mono ∅)) aM)) (dB g_MOST_TAKES)) (aG jT) bA)))))))) ?_;rintro _ R ⟨t,n,rfl,hd,ok,hp,ln,q⟩;refine#[rfl,t,rfl,hd,ok,nofun,λ_=>?_];refine#[t,n,rfl,hd,ln,λ_ _=>?_];refine gG t #v[4] #[t,rfl,rfl,hd,∅,λz=>?_,λ_=>?_]
 ·have:=Ab3 z
  lia
 refine gG t #v[4] #[t,rfl,rfl,hd,∅,λz=>?_,λ_=>?_]
 ·have:=Ab3 z
  lia
 refine gG t #v[4] #[t,rfl,rfl,hd,ln.few,λys ik=>#[λz=>?_,λ_=>q]];have:=Ab3 z;obtain⟨ks,kl,km⟩:=ln.2.2;have h2:=(aCz ik.1).length_le_of_subset (l₂:=ks) λx hx=>km x ((ik.2 x).mp hx);rw[Ab]at this
 lia
def GoodR(n:Int)(m:Int)(l:List Int):Prop:=(l.length:Int)=n/\l.length<=40/\∀x∈l,0<=x/\x<m
def aOo:Fv:=λus R=>∃(l:List Int)(n m:Int),us=[.ls (l.map U.n),.n n,.n m]/\GoodR n m l/\R #v[y]
abbrev aN0:List Str:=["thing","many","modulus"]
def aNa:aQ ["thing","many","modulus"] ["thing","many","modulus"] (aC wC):={}
def aP0(F:Fun K "is_row" "is_row" wC f fd)(c_is_within:#v[j])(T:Txt mg):↥3 f fd ["thing","many","modulus"] (spV aOo):=by
 refine vfn F aNa (λae A outer s H E hr=>(aD (cB (iM (jV (cI (cL (iU .ls nofun T.isinstance T.list Gh (aA 0)))) (fK (bK (lU (huD hr)) dC #v[c] (aA 1))))) (aG (aU jR)) bA) (aG (aU (aO iZ (qP rfl) T.all Nh (aJ (dU (own:=["worth"]) (cap:=[("modulus",2)]) (aC wC) aN0 rfl rfl (λx h=>aV h) #v[4] rfl (vic (aX (aA 0))) ↑(aW (i:=0) (~~~["worth","modulus"]) rfl (Dl rfl) (Dr rfl)) (bC ⋯) ↑(aL c_is_within (hr.mono ⋯) rfl (aB (aA 0) (aB aH (aB (cT sY cU (aA 1) aH) aF))))) aM)))))) ?_;rintro _ R ⟨l,n,m,rfl,⟨h1,h2,h3⟩,q⟩;refine#[rfl,_,rfl,nofun,λ_=>#[trivial,trivial,λz=>?_,λ_=>?_]]
 ·simp[U.eq,U.d,D.eq,eqV,Sl.rd,h1]at z
 ·refine#[by rw[Ab];lia,cC (h:=λ_=> .b true) (λu hu k hk=>?_) #[l.map λ_=>true,by rw[Ba,Ba];rfl,Rbl q (by simp)]];obtain⟨x,hx,rfl⟩:=Aj.mp hu;have:=h3 x hx;refine#[_,_,_,_,rfl,rfl,?_];show k (some (.b (isIn (.n x) 0 (m-1))));rw[show isIn (.n x) 0 (m-1)=true by simp[isIn,this.1];lia];exact hk
def qF(ls:List (List Int)):List U:=ls.map λl=> .ls (l.map U.n)
def aF5:Fv:=λus R=>∃(ls:List (List Int))(k n m:Int),us=[.ls (qF ls),.n k,.n n,.n m]/\(ls.length:Int)=k/\ls.length<=3/\(∀l∈ls,GoodR n m l)/\R #v[y]
abbrev aHy:List Str:=["thing","deep","many","modulus"]
def aG6:aQ ["thing","deep","many","modulus"] ["thing","deep","many","modulus"] (aC qW):={}
def aJb(F:Fun K "are_rows" "are_rows" qW f fd)(aN6:⇑3 "is_row" ["thing","many","modulus"] (spV aOo))(T:Txt mg):↥4 f fd ["thing","deep","many","modulus"] (spV aF5):=by
 refine vfn F aG6 (λae A outer s H E hr=>(aD (cB (iM (jV (cI (cL (iU .ls nofun T.isinstance T.list Gh (aA 0)))) (fK (bK (lU (huD hr)) dC #v[c] (aA 1))))) (aG (aU jR)) bA) (aG (aU (aO iZ (qP rfl) T.all Nh (aJ (dU (own:=["row"]) (cap:=[("many",2),("modulus",3)]) (aC qW) aHy rfl rfl (λx h=>aV h) #v[4] rfl (vic (aX (aA 0))) ↑(aW (i:=0) (~~~["row","many","modulus"]) rfl (Dl rfl) (Dr rfl)) (bC ⋯) ↑(aL aN6 (hr.mono ⋯) rfl (aB (aA 0) (aB (aA 1) (aB (aA 2) aF))))) aM)))))) ?_;rintro _ R ⟨ls,k,n,m,rfl,h1,h2,h3,q⟩;have e1:(qF ls).length=ls.length:=Ab ..;refine#[rfl,_,rfl,nofun,λ_=>#[trivial,trivial,λz=>?_,λ_=>?_]]
 ·simp[U.eq,U.d,D.eq,eqV,Sl.rd,h1,e1]at z
 ·refine#[∅,cC (h:=λ_=> .b true) (λu hu k hk=>?_) #[ls.map λ_=>true,by unfold qF;rw[Ba,Ba];rfl,Rbl q (by simp)]];obtain⟨x,hx,rfl⟩:=Aj.mp hu;exact#[x,n,m,rfl,h3 x hx,hk]
def dpt(ys:List Tk):Int:=if ys=[]then 1 else ys.foldl (λm y=>max m y.1) 0
def aOf(hp:∀y∈ys,0<=y.1)(hm:m∈ys.map (·.1))(ha:∀a∈ys.map (·.1),a<=m):dpt ys=m:=by
 have key:∀(l:List Tk)(a:Int),(∀y∈l,y.1<=m)->a<=m->l.foldl (λm y=>max m y.1) a<=m/\a<=l.foldl (λm y=>max m y.1) a/\∀y∈l,y.1<=l.foldl (λm y=>max m y.1) a:=by
  intro l;induction l with
  |nil=>exactλa _ h=>#[h,Int.le_refl _,λ_ z=>nomatch z]
  |cons x l ih=>
   intro a h1 h2;have hx:=h1 x Ah;obtain⟨g1,g2,g3⟩:=ih (max a x.1) (λy hy=>h1 y (Af _ hy)) ∅;refine#[g1,by rw[Lc];lia,λy hy=>?_];rw[Lc];rcases Ax.mp hy with rfl|hy
   ·lia
   ·exact g3 y hy
 obtain⟨y,hy,rfl⟩:=Aj.mp hm;have h0:=hp y hy;obtain⟨g1,g2,g3⟩:=key ys 0 (λz hz=>ha _ (Aj.mpr #[z,hz,rfl])) h0;unfold dpt;rw[Ab0 (by intro z;rw[z]at hy;cases hy)];have:=g3 y hy
 lia
def aVt(C:Addr):Fv:=λus R=>∃(ys:List Tk)(ns:List Str)(ws:List U),us=[.ob C ("taken"::ns) (.ls (ys.map tkU)::ws)]/\ys.length<=17/\(∀y∈ys,0<=y.1)/\R (.sh (.n (dpt ys)))
abbrev aHx:List Str:=["self"]
def aG5:aQ ["self"] ["self"] (aC qU):={}
def aTa(F:Fun K "deep" "Job.deep" qU f fd)(cJ:Cfl K C ["taken"])(T:Txt mg):↥1 f fd ["self"] (spV (aVt C)):=by
 refine vfn F aG5 (λae A outer s H E hr=>(aG (aU (wN rfl T.max (aJ (dU (own:=["take"]) (cap:=[]) (aC qU) aHx rfl rfl (λx h=>aV h) #v[4] rfl (vic (aX (dX cJ (aA 0)))) ↑(aW (i:=0) (~~~["take"]) rfl (Dl rfl) (Dr rfl)) (bC ⋯) ↑#v[u]) aM) aH)))) ?_;rintro _ R ⟨ys,ns,ws,rfl,yl,hp,q⟩;have e:(ys.map tkU).map (λu=>match u with|.tp (x::_)=>x|u=>u)=(ys.map (·.1)).map U.n:=by rw[Ba,Ba];rfl
 refine#[rfl,rfl,.inl #[rfl,by rw[Ab];lia,cC (h:=λu=>match u with|.tp (x::_)=>x|u=>u) (λu hu k hk=>?_) ?_]]
 ·obtain⟨y,hy,rfl⟩:=Aj.mp hu;exact#[_,rfl,hk]
 ·rw[Bm,e];refine#[_,rfl,λz=>?_,λm hm ha=>?_]
  ·have z:=Bf.mp z;subst z;exact q
  ·rw[aOf hp hm ha]at q;exact q
inductive aJ8(us:List U)(R:(List Str->List U->Prop)):Prop
 |mk (ns:List Int) (rs:List Rim) (q0_:us=[.ls #v[x],.ls (rs.map Rim.u)]) (q1_:iW ns) (q2_:rs.length=ns.length) (q3_:(∀r∈rs,r.ok)) (q4_:R ["sizes","rims"] [.ls #v[x],.ls (rs.map Rim.u)]):aJ8 us R
def aIs:List U->(List Str->List U->Prop)->Prop:=λus R=>aJ8 us R
def zQ(ns:List Int):U.dts 5 #v[x]:=by
 induction ns with
 |nil=>trivial
 |cons r rs ih=>exact#[trivial,ih]
def aUa(rs:List Rim):U.dts 5 (rs.map Rim.u):=by
 induction rs with
 |nil=>trivial
 |cons r rs ih=>exact#[by cases r<;>first|exact#[trivial,trivial]|exact#[trivial,trivial,trivial],ih]
def xY:aQ ["self","sizes","rims"] ["self","sizes","rims"] (aC lV):={}
def aPw(F:Fun K "__init__" "Grid.__init__" lV f fd)(cG:Cfl K C ["sizes","rims"])(aBt:⇑4 "check_lines" ["sizes","rims"] (spV aOj))(xF:⇑1 "product" ["sizes"] (spV aOs))(T:Txt mg):↥5 f fd ["self","sizes","rims"] (spI C aIs):=by
 obtain⟨_,g_MOST_PLACES⟩:=T.c_MOST_PLACES;refine F.ok xY (λvs H Q E h=>?_) (λae A outer s H vs Q E hr h=>?_)
 ·obtain⟨x,dx,vs',H1,W,B,us,R,rfl,_,_,_,_,ds,⟨ns,rs,rfl,_⟩,_⟩:=h;rw[Ao, <-ds.length];rfl
 ·obtain⟨x,dx,vs',H1,W,B,us,R,rfl,n1,hx,s1,eb,ds,⟨ns,rs,rfl,g,el,rk,hR⟩,q⟩:=h;obtain⟨v1,_,rfl,d1,v2,r,rfl,d2,dr⟩:=ds;obtain rfl:r=[]:=dr;have ee:∀{H'},Fw W H1 H'->EE W B H' [.no,.sh (.ls #v[x]),.sh (.ls (rs.map Rim.u))] [some (.ref x),some v1,some v2]:=λfw=>oE (fO (DU.mono (eb.keep fw) _ d1) (fO (DU.mono (eb.keep fw) _ d2) (aIo (eb.to fw))));have nw:¬W x:=λz=>eb.dm x (eb.wb x z) n1;have nB:¬B x:=eb.nw n1;refine#[_,(bB (qR (VE.can (aL aBt (hr.mono ⋯) rfl (aB (aA 1) (aB (aA 2) aF))))) (bB (qC (VC.can (bK lL cU (aL xF (hr.mono ⋯) rfl (aB (aA 1) aF)) (dB g_MOST_PLACES))) (cV fZ) gK) (bB (fC (pv 0) (VE.can (dD (eG rfl) kZ T.list Gh (aJ (aA 1) aM))) rfl) (cV (fC (pv 0) (VE.can (dD (eG rfl) kZ T.list Gh (aJ (aA 2) aM))) rfl))))),?_];have f0:=eb.same s1;refine tM (R:=λ_=>True) (ee f0) #[ns,rs,rfl,g.ok,g.l1,g.l3,el,rk,trivial] λs v H2 _ w2 _=>?_;have f2:=f0.trans w2;refine pK (R:=λc=>c=false) (ee f2) #[ns,rfl,g.ok,g.l3,Ab6 (by have:=g.mn;lia)] λc H3 hc w3=>?_;subst hc;refine rQ ?_;have f3:=f2.trans w3;have hx3:H3 x=some (.ins C dx []):=w3.fr _ _ nw (w2.fr _ _ nw hx);refine tM (R:=λs=>s=.ow #v[x]) (ee f3) rfl λs v4 H4 hs w4 r4=>?_;subst hs;obtain⟨p4,x4,rfl,n4,h4,d4⟩:=r4;have f4:=f3.trans w4;have hx4:=w4.fr _ _ nw hx3;refine#[_,rfl,x,C,dx,_,rfl,hx4,cG.cl,cG.na _ (by simp),⋯,?_];have f5:=f4.upd (o:=.ins C dx (lM "sizes" (.ref p4) [])) n1 nw;have hx5:upd H4 x (.ins C dx (lM "sizes" (.ref p4) [])) x=_:=aP;have h5:=eU (B:=B) (o:=.ins C dx (lM "sizes" (.ref p4) [])) hx4 p4 _ (λz=>(eb.to f3).dm p4 z n4) h4 (.inr #[_,rfl]);have d5:=DUs.data (eU (o:=.ins C dx (lM "sizes" (.ref p4) [])) hx4) 5 _ (zQ ns) d4.less;revert f5 hx5 h5 d5;generalize upd H4 x (.ins C dx (lM "sizes" (.ref p4) []))=H5;intro f5 hx5 h5 d5;refine tM (R:=λs=>s=.ow (rs.map Rim.u)) (ee f5) rfl λs v6 H6 hs w6 r6=>?_;subst hs;obtain⟨p6,x6,rfl,n6,h6,d6⟩:=r6;have hx6:=w6.fr _ _ nw hx5;refine#[_,rfl,x,C,dx,_,rfl,hx6,cG.cl,cG.na _ (by simp),by show(1:Nat)<1000;decide,?_];have e6:=eb.to (f5.trans w6);refine q ["sizes","rims"] _ [.ref p4,.ref p6] _ hR ((f5.trans w6).upd n1 nw) aP rfl #[_,_,rfl,#[p4,x4,rfl,(eb.to f3).nw n4,?_,?_],_,_,rfl,#[p6,x6,rfl,(eb.to f5).nw n6,?_,?_],rfl]
  ·exact eU (B:=B) hx6 p4 _ ((eb.to f3).nw n4) (w6.fr _ _ (λz=>(eb.to f3).nw n4 (eb.wb _ z)) h5) (.inr #[_,rfl])
  ·exact DUs.data (eU hx6) 5 _ (zQ ns) (DUs.mono ((eb.to f5).keep w6) _ d5)
  ·exact eU (B:=B) hx6 p6 _ ((eb.to f5).nw n6) h6 (.inr #[_,rfl])
  ·exact DUs.data (eU hx6) 5 _ (aUa rs) d6.less
def rR(N:Cn)(CG CJ:Addr)(ns:List Int)(rs:List Rim)(t:Tm)(ys:List Tk)(m r:Int)(ls:List (List Int)):U:=.ob CJ ["taken","grid","term","modulus","rounds","first"] [.ls (ys.map tkU),grU CG ns rs,enc N t,.n m,.n r,.ls (qF ls)]
structure aU1(ns:List Int)(rs:List Rim)(t:Tm)(m r:Int)(ls:List (List Int)):Prop where
 gs:iW ns
 el:rs.length=ns.length
 rk:∀x∈rs,x.ok
 hd:ht t<=8
 ok:aH5 t
 pr:rT t<=60
 ln:Ln t ns.length
 m2:2<=m/\m<=1000000000
 r0:0<=r/\r<=12
 rm:r*oG ns<=120
 dp:∀ys,vL t ys->(ls.length:Int)=dpt ys
 l3:ls.length<=3
 rw_:∀l∈ls,GoodR (oG ns) m l
inductive aJ9(N:Cn)(CG:Addr)(us:List U)(R:(List Str->List U->Prop)):Prop
 |mk (ns:List Int) (rs:List Rim) (t:Tm) (m r:Int) (ls:List (List Int)) (q0_:us=[grU CG ns rs,enc N t,.n m,.n r,.ls (qF ls)]) (q1_:aU1 ns rs t m r ls) (q2_:∀ys,vL t ys->R ["taken","grid","term","modulus","rounds","first"] [.ls (ys.map tkU),grU CG ns rs,enc N t,.n m,.n r,.ls (qF ls)]):aJ9 N CG us R
def aIt(N:Cn)(CG:Addr):List U->(List Str->List U->Prop)->Prop:=λus R=>aJ9 N CG us R
def aUb(ls:List (List Int)):U.dts 6 (qF ls):=by
 induction ls with
 |nil=>trivial
 |cons l ls ih=>exact#[zQ l,ih]
def aRp(ys:List Tk):U.dts 7 (ys.map tkU):=by
 induction ys with
 |nil=>trivial
 |cons y ys ih=>exact#[#[trivial,zQ y.2,trivial],ih]
def bCl(i j:Int):U.eq (.n i) (.n j)=(i==j):=rfl
abbrev aAe:List Str:=["self","grid","term","modulus","rounds","first"]
def zH:aQ ["self","grid","term","modulus","rounds","first"] ["self","grid","term","modulus","rounds","first"] (aC jF):={}
def aP1(F:Fun K "__init__" "Job.__init__" jF f fd)(cJ:Cfl K CJ ["taken","grid","term","modulus","rounds","first"])(aDy:⇑13 "check_term" ["term"] (spV (aKo N 8)))(uR:⇑11 "lines_of" ["term"] (spV (aAu N 8)))
  (c_is_within:#v[j]) (aIa:⇑4 "are_rows" ["thing","deep","many","modulus"] (spV aF5)) (qL:lQ P w K mg base N 9 "takes" (sV N 8)) (D_lines:Dis P w K mg base CX0 1 (·=CG) "lines" ["self"] λ_=>spV (aIu CG)) (uE:Dis P w K mg base CX0 2 (·=CG) "places_many" ["self"] λ_=>spV (aVv CG)) (D_deep:Dis P w K mg base CX0 1 (·=CJ) "deep" ["self"] λ_=>spV (aVt CJ)) (T:Txt mg):↥14 f fd ["self","grid","term","modulus","rounds","first"] (spI CJ (aIt N CG)):=by
 obtain⟨_,g_GREATEST_MODULUS⟩:=T.c_GREATEST_MODULUS;obtain⟨_,g_MOST_ROUNDS⟩:=T.c_MOST_ROUNDS;obtain⟨_,g_MOST_SPOTS⟩:=T.c_MOST_SPOTS;refine F.ok zH (λvs H Q E h=>?_) (λae A outer s H vs Q E hr h=>?_)
 ·obtain⟨x,dx,vs',H1,W,B,us,R,rfl,_,_,_,_,ds,⟨ns,rs,t,m,r,ls,rfl,_⟩,_⟩:=h;rw[Ao, <-ds.length];rfl
 ·obtain⟨x,dx,vs',H1,W,B,us,R,rfl,n1,hx,s1,eb,ds,⟨ns,rs,t,m,r,ls,rfl,g,hR⟩,q⟩:=h;obtain⟨v1,_,rfl,d1,v2,_,rfl,d2,v3,_,rfl,d3,v4,_,rfl,d4,v5,r5,rfl,d5,dr⟩:=ds;obtain rfl:r5=[]:=dr;have ee:∀{H' s0},Fw W H1 H'->EE W B H' [s0,.sh (grU CG ns rs),.sh (enc N t),.sh (.n m),.sh (.n r),.sh (.ls (qF ls))] [some (.ref x),some v1,some v2,some v3,some v4,some v5]->EE W B H' [s0,.sh (grU CG ns rs),.sh (enc N t),.sh (.n m),.sh (.n r),.sh (.ls (qF ls))] [some (.ref x),some v1,some v2,some v3,some v4,some v5]:=λ_ e=>e;have et:∀{H'},Fw W H1 H'->EE W B H' [.sh (grU CG ns rs),.sh (enc N t),.sh (.n m),.sh (.n r),.sh (.ls (qF ls))] [some v1,some v2,some v3,some v4,some v5]:=λfw=>fO (DU.mono (eb.keep fw) _ d1) (fO (DU.mono (eb.keep fw) _ d2) (fO d3 (fO d4 (fO (DU.mono (eb.keep fw) _ d5) (aIo (eb.to fw))))));have nw:¬W x:=λz=>eb.dm x (eb.wb x z) n1;refine#[_,(bB (qR (VE.can (aL aDy (hr.mono ⋯) rfl (aB (aA 2) aF)))) (bB (qC (VC.can (bK (aC2 (huD hr)) aPp (aL uR (hr.mono ⋯) rfl (aB (aA 2) aF)) (dO (aB tO (aB (cD (aA 1) D_lines (hr.mono ⋯)) aF))))) (cV fZ) gK) (bB (qC (VC.can (cI (cL (aL c_is_within (hr.mono ⋯) rfl (aB (aA 3) (aB aH (aB (dB g_GREATEST_MODULUS) aF))))))) (cV fZ) gK) (bB (qC (VC.can (iM (jV (cI (cL (aL c_is_within (hr.mono ⋯) rfl (aB (aA 4) (aB aH (aB (dB g_MOST_ROUNDS) aF)))))) (fK (bK lL cU (cT pD aGv (aA 4) (cD (aA 1) uE (hr.mono ⋯))) (dB g_MOST_SPOTS)))))) (cV fZ) gK) (bB (fC (pv 0) (VE.can (cD (aA 2) qL (hr.mono ⋯))) rfl) (bB (qC (VC.can (cI (cL (aL aIa (hr.mono ⋯) rfl (aB (aA 5) (aB (cD (aA 0) D_deep (hr.mono ⋯)) (aB (cD (aA 1) uE (hr.mono ⋯)) (aB (aA 3) aF)))))))) (cV fZ) gK) (bB (fC (pv 0) (pv 1) rfl) (bB (fC (pv 0) (pv 2) rfl) (bB (fC (pv 0) (pv 3) rfl) (bB (fC (pv 0) (pv 4) rfl) (cV (fC (pv 0) (VE.can (dU (own:=["row"]) (cap:=[]) (aC jF) aAe rfl rfl (λx h=>aV h) #v[4] rfl (vic (aX (aA 5))) ↑(aW (i:=0) (~~~["row"]) rfl (Dl rfl) (Dr rfl)) (bC ⋯) ↑(dD (eG rfl) kZ T.list Gh (aJ (aA 0) aM)))) rfl)))))))))))),?_];have f0:=eb.same s1;refine tM (R:=λ_=>True) (oE (et f0)) #[t,_,rfl,g.hd,g.ok,g.pr,g.ln,trivial] λs v H2 _ w2 _=>?_;have f2:=f0.trans w2;refine pK (R:=λc=>c=false) (oE (et f2)) #[t,_,rfl,g.hd,g.ln,λs hs=>?_] λc H3 hc w3=>?_
  ·rcases hs with rfl|rfl
   ·exact#[rfl,rfl,ns,rs,rfl,trivial,#[trivial,trivial,trivial],rfl]
   ·refine#[rfl,rfl,ns,rs,rfl,trivial,#[trivial,trivial,trivial],?_];simp[bCl,Sl.rd]
  subst hc;refine rQ ?_;have f3:=f2.trans w3;refine pK (R:=λc=>c=false) (oE (et f3)) #[_,_,_,_,rfl,rfl,?_] λc H4 hc w4=>?_
  ·show(!isIn (.n m) 2 1000000000)=false;simp[isIn,g.m2.1,g.m2.2]
  subst hc;refine rQ ?_;have f4:=f3.trans w4;refine pK (R:=λc=>c=false) (oE (et f4)) #[_,_,_,_,rfl,rfl,λz=>?_,λ_=>#[rfl,rfl,ns,rs,rfl,g.gs,?_]] λc H5 hc w5=>?_
  ·simp[isIn,g.r0.1,g.r0.2]at z
  ·refine#[.inl #[by have:=g.r0;lia,by have:=g.r0;lia],?_];exact Ab6 (by have:=g.rm;lia)
  subst hc;refine rQ ?_;have f5:=f4.trans w5;have hx5:H5 x=some (.ins CJ dx []):=w5.fr _ _ nw (w4.fr _ _ nw (w3.fr _ _ nw (w2.fr _ _ nw hx)));refine tM (R:=λs=>∃ys,vL t ys/\s=.ow (ys.map tkU)) (oE (et f5)) (gG t #v[4] #[t,rfl,rfl,g.hd,g.ln.few,λys hy=>#[ys,hy,rfl]]) λs v6 H6 hs w6 r6=>?_;obtain⟨ys,hy,rfl⟩:=hs;obtain⟨p6,x6,rfl,n6,h6,d6⟩:=r6;have f6:=f5.trans w6;have hx6:=w6.fr _ _ nw hx5;have nB6:¬B p6:=(eb.to f5).nw n6;refine#[_,rfl,x,CJ,dx,_,rfl,hx6,cJ.cl,cJ.na _ (by simp),⋯,?_];have f7:=f6.upd (o:=.ins CJ dx (lM "taken" (.ref p6) [])) n1 nw;have hx7:upd H6 x (.ins CJ dx (lM "taken" (.ref p6) [])) x=_:=aP;have h7:=eU (B:=B) (o:=.ins CJ dx (lM "taken" (.ref p6) [])) hx6 p6 _ nB6 h6 (.inr #[_,rfl]);have d7:=DUs.data (eU (o:=.ins CJ dx (lM "taken" (.ref p6) [])) hx6) 7 _ (aRp ys) d6.less;revert f7 hx7 h7 d7;generalize upd H6 x (.ins CJ dx (lM "taken" (.ref p6) []))=H7;intro f7 hx7 h7 d7;have yl:ys.length<=17:=by have:=aE3 g.ln.few hy;lia
  have yp:∀y∈ys,0<=y.1:=λy h=>by have:=(g.ok.2 y ((hy.2 y).mp h)).1.1;lia
  have dJ:DU W B H7 (.ob CJ ["taken"] [.ls (ys.map tkU)]) (.ref x):=#[x,dx,[.ref p6],rfl,eb.nw n1,hx7,rfl,_,_,rfl,#[p6,x6,rfl,nB6,h7,d7],rfl];refine pK (R:=λc=>c=false) (fO dJ (et f7)) #[rfl,rfl,ys,[],[],rfl,yl,yp,rfl,rfl,ns,rs,rfl,g.gs,ls,_,_,_,rfl,g.dp ys hy,g.l3,g.rw_,rfl] λc H8 hc w8=>?_;subst hc;refine rQ ?_;have step:∀{H fs fs'},(Fw W H1 H/\H x=some (.ins CJ dx fs)/\DU W B H (.ls (ys.map tkU)) (.ref p6))->(Fw W H1 (upd H x (.ins CJ dx fs'))/\upd H x (.ins CJ dx fs') x=some (.ins CJ dx fs')/\DU W B (upd H x (.ins CJ dx fs')) (.ls (ys.map tkU)) (.ref p6)):=λ⟨a,b,c⟩=>#[a.upd n1 nw,aP,DU.data (eU b) 8 _ (aRp ys) c];have k8:Fw W H1 H8/\H8 x=some (.ins CJ dx [("taken",.ref p6)])/\DU W B H8 (.ls (ys.map tkU)) (.ref p6):=#[f7.trans w8,w8.fr _ _ nw hx7,DU.mono ((eb.to f7).keep w8) _ #[p6,x6,rfl,nB6,h7,d7]];have fl:∀{k:Nat},k<=6->k<1000:=λh=>by lia
  refine#[_,rfl,_,rfl,x,CJ,dx,_,rfl,k8.2.1,cJ.cl,cJ.na _ (by simp),fl (by show(1:Nat)<=6;decide),?_];have k9:=step (fs':=[("taken",.ref p6),("grid",v1)]) k8;refine#[_,rfl,_,rfl,x,CJ,dx,_,rfl,k9.2.1,cJ.cl,cJ.na _ (by simp),fl (by show(2:Nat)<=6;decide),?_];have k10:=step (fs':=[("taken",.ref p6),("grid",v1),("term",v2)]) k9;refine#[_,rfl,_,rfl,x,CJ,dx,_,rfl,k10.2.1,cJ.cl,cJ.na _ (by simp),fl (by show(3:Nat)<=6;decide),?_];have k11:=step (fs':=[("taken",.ref p6),("grid",v1),("term",v2),("modulus",v3)]) k10;refine#[_,rfl,_,rfl,x,CJ,dx,_,rfl,k11.2.1,cJ.cl,cJ.na _ (by simp),fl (by show(4:Nat)<=6;decide),?_];have k12:=step (fs':=[("taken",.ref p6),("grid",v1),("term",v2),("modulus",v3),("rounds",v4)]) k11;refine tM (R:=λs=>s=.ow (qF ls)) (oE (et k12.1)) #[by have:=g.l3;show(qF ls).length<=_;unfold qF;rw[Ab];lia,cC (h:=id) (λu hu k hk=>?_) (by rw[Bm,Kz])] λs v13 H13 hs w13 r13=>?_
  ·obtain⟨l,_,rfl⟩:=Aj.mp hu;exact hk
  subst hs;obtain⟨p13,x13,rfl,n13,h13,d13⟩:=r13;have f13:=k12.1.trans w13;have nB13:¬B p13:=(eb.to k12.1).nw n13;have k13:Fw W H1 H13/\H13 x=some (.ins CJ dx [("taken",.ref p6),("grid",v1),("term",v2),("modulus",v3),("rounds",v4)])/\DU W B H13 (.ls (ys.map tkU)) (.ref p6):=#[f13,w13.fr _ _ nw k12.2.1,DU.mono ((eb.to k12.1).keep w13) _ k12.2.2];refine#[_,rfl,x,CJ,dx,_,rfl,k13.2.1,cJ.cl,cJ.na _ (by simp),fl (by show(5:Nat)<=6;decide),?_];have k14:=step (fs':=[("taken",.ref p6),("grid",v1),("term",v2),("modulus",v3),("rounds",v4),("first",.ref p13)]) k13;have fin:=λu{v:V}(d:DU W B H1 u v)=>DU.mono (eb.keep k14.1) u d;exact q _ _ [.ref p6,v1,v2,v3,v4,.ref p13] _ (hR ys hy) k14.1 aP rfl #[_,_,rfl,k14.2.2,_,_,rfl,fin _ d1,_,_,rfl,fin _ d2,_,_,rfl,fin _ d3,_,_,rfl,fin _ d4,_,_,rfl,#[p13,x13,rfl,nB13,eU (B:=B) k13.2.1 p13 _ nB13 h13 (.inr #[_,rfl]),DUs.data (eU k13.2.1) 6 _ (aUb ls) d13.less],rfl]
def bAl{c:Bool}{a b:Prop}(h:c=true)(x:a):if c=true then a else b:=by rw[Ab1 h];exact x
def bAk{c:Bool}{a b:Prop}(h:c=false)(x:b):if c=true then a else b:=by rw[Ab0 (by rw[h];exact Ar)];exact x
def aJo(K:Ad)(ns:List Int):Opq where
 φ:=λ_ B H v=>∃a,v=.ref a/\((¬B a/\Rd H a (.lst (ns.map V.int)))∨∀H',SqL K H' a (ns.map V.int))
 mono:=λk ⟨a,e,h⟩=>by
  rcases h with ⟨nb,h|⟨o,h⟩⟩|h
  ·exact#[a,e,.inl #[(k _ _ nb h).1,.inl (k _ _ nb h).2]]
  ·exact#[a,e,.inl #[(k _ _ nb h).1,.inr #[o,(k _ _ nb h).2]]]
  ·exact#[a,e,.inr h]
 wm:=λ_ h=>h
def aVs(K:Ad):Fv:=λus R=>∃(ns:List Int)(k:Nat),us=[.op (aJo K ns),.n (k:Int)]/\∀n:Int,R (.sh (.n n))
def bAm(x:Int): -(2 ^ 64)<x % 2147483647/\x % 2147483647<2 ^ 64:=by lia
def DUs.two(h:DUs W B H [u,v] vs):∃x y,vs=[x,y]/\DU W B H u x/\DU W B H v y:=by
 obtain⟨x,_,rfl,d1,y,r,rfl,d2,e⟩:=h;obtain rfl:r=[]:=e;exact#[x,y,rfl,d1,d2]
def zK:aQ ["_law_script","_law_k"] ["_law_script","_law_k"] (aC nO):={}
def aS9(F:Fun K "_law_cell_at" "_law_cell_at" nO f fd)(T:Txt mg):↥1 f fd ["_law_script","_law_k"] (spV (aVs K)):=by
 refine F.ok zK (λvs H Q E h=>?_) (λae A outer s H vs Q E hr h=>?_)
 ·obtain⟨W,B,us,R,eb,ds,⟨ns,k,rfl,_⟩,_⟩:=h;rw[<-ds.length];rfl
 ·obtain⟨W,B,us,R,eb,ds,⟨ns,k,rfl,hR⟩,q⟩:=h;obtain⟨x,y,rfl,⟨a,rfl,hs⟩,⟨rfl,_⟩⟩:=DUs.two ds;have hS:SqL K H a (ns.map V.int):=hs.elim (λh=> .inl h.2) λh=>h H;have q':∀n:Int,Q (.int n) H:=λn=>q _ _ _ (hR n) eb.refl #[rfl,rfl];refine#[_,(bB (qC (aEr aGx (pv 1) (iI aK (by rfl) T.len PySem.boot_len (bZ (pv 0) dN)) (aEh _)) (cV (xV (uL lB (pv 0) (pv 1) (λ_ _=>rfl)))) gK) (cV (xV dW))),?_];refine#[_,rfl,_,rfl,a,_,rfl,.inl hS,_,_,rfl,rfl,_,rfl,?_];by_cases h:k<ns.length
  ·refine bAl (Ab5 (by rw[Ab];lia)) ?_;exact#[_,rfl,_,rfl,a,_,_,_,rfl,rfl,hS,bQ (show(ns.map V.int)[k]? =some (.int ns[k]) by rw[Bg,Ag h];rfl),q' _]
  ·exact bAk (Ab6 (by rw[Ab];lia)) (q' 0)
def aF6:Fv:=λus R=>∃m:Int,us=[.wl,.n m]/\0<m/\m<2 ^ 62/\∀r:Int,0<=r->r<m->R (.sh (.n r))
def mV:aQ ["_law_tape_here","_law_many","_law_number"] ["_law_tape_here","_law_many"] (aC tD):={}
def aTb(F:Fun K "_law_draw" "_law_draw" tD f fd):↥1 f fd ["_law_tape_here","_law_many"] (spV aF6):=by
 refine F.ok mV (λvs H Q E h=>?_) (λae A outer s H vs Q E hr h=>?_)
 ·obtain⟨W,B,us,R,eb,ds,⟨m,rfl,_⟩,_⟩:=h;rw[<-ds.length];rfl
 ·obtain⟨W,B,us,R,eb,ds,⟨m,rfl,hm,hm2,hR⟩,q⟩:=h;obtain⟨v1,v2,rfl,⟨a,rfl,wa⟩,⟨rfl,_⟩⟩:=DUs.two ds;obtain⟨x,y,z,ha⟩:=eb.wo a wa;have up:∀(x y z:Int),Fw W H (upd H a (.lst [.int x,.int y,.int z])):=λx y z=>⟨λb o nw h=>(aN (λe:b=a=>nw (by rw[e];exact wa))).trans h,λp hp=>by
   by_cases e:p=a
   ·exact#[x,y,z,by rw[e,aP]]
   ·obtain⟨x',y',z',h⟩:=eb.wo p hp;exact#[x',y',z',(aN e).trans h]⟩
  have fin:∀(t:Int)(H':Hp),Fw W H H'->Q (.int (t % m)) H':=λt H' fw=>q _ _ _ (hR (t % m) (Rh t ∅) (Pa t hm)) fw #[rfl,rfl];refine#[_,(bB (qC (aEr lL (uL lB (pv 0) dW (λ_ _=>rfl)) dW (aEh _)) (bB (aBb (i:=2) mV.nd rfl (Dl rfl) (jX xQ (uL lB (pv 0) dW (λ_ _=>rfl)) (pv 1))) (bB (aEq (jX aA6 (uL lB (pv 0) dW (λ_ _=>rfl)) (pv 1)) (aJg (pv 0) dW set_list)) (cV (xV (pv 2))))) gK) (bB (aEq (jX xP (uL lB (pv 0) dW (λ_ _=>rfl)) dW) (aJg (pv 0) dW set_list)) (bB (aBb (i:=2) mV.nd rfl (Dl rfl) (jX xQ (jX pD (jX xP (jX xP (uL lB (pv 0) dW (λ_ _=>rfl)) (jX pD dW (uL lB (pv 0) dW (λ_ _=>rfl)))) dW) dW) dW)) (bB (aBb (i:=2) mV.nd rfl (Dl rfl) (jX xQ (jX pD (pv 2) (jX xP (jX aA6 (pv 2) dW) dW)) dW)) (cV (xV (jX xQ (jX xQ (jX pD (pv 2) (jX xP (jX aA6 (pv 2) dW) dW)) dW) (pv 1)))))))),?_];refine#[_,rfl,a,_,_,_,rfl,rfl,SqL.of ha,rfl,_,_,rfl,rfl,_,rfl,?_];refine bCs (λ_=>?_) (λ_=>?_)
  ·refine#[_,rfl,a,_,_,_,rfl,rfl,SqL.of ha,rfl,_,rfl,_,_,rfl,rfl,hm,?_];refine#[_,rfl,a,_,_,_,rfl,rfl,SqL.of ha,rfl,_,rfl,_,_,rfl,rfl,#[hm,hm2],?_];refine#[_,rfl,a,_,_,1,rfl,rfl,ha,rfl,?_];exact#[_,rfl,fin _ _ (up _ _ _)]
  ·refine#[_,rfl,a,_,_,_,rfl,rfl,SqL.of ha,rfl,_,_,rfl,rfl,?_];refine#[_,rfl,a,_,_,2,rfl,rfl,ha,rfl,?_];have hb:(upd H a (.lst ([V.int x,V.int y,V.int z].set 2 (.int (z+1))))) a=some (.lst [.int x,.int y,.int (z+1)]):=aP;refine#[_,rfl,a,_,_,_,rfl,rfl,SqL.of hb,rfl,_,rfl,a,_,_,_,rfl,rfl,SqL.of hb,rfl,_,_,rfl,rfl,.inl #[⋯,⋯],_,_,rfl,rfl,_,_,rfl,rfl,_,_,rfl,rfl,.inr #[⋯,⋯],_,_,rfl,rfl,(by show(0:Int)<2147483647;decide),?_];refine#[_,rfl,_,rfl,_,_,rfl,rfl,#[⋯,⋯],_,_,rfl,rfl,_,_,rfl,rfl,.inl (bAm _),_,_,rfl,rfl,(by show(0:Int)<2147483647;decide),?_];refine#[_,rfl,_,rfl,_,_,rfl,rfl,#[⋯,⋯],_,_,rfl,rfl,_,_,rfl,rfl,.inl (bAm _),_,_,rfl,rfl,(by show(0:Int)<2147483399;decide),_,rfl,_,_,rfl,rfl,hm,?_];exact fin _ _ (up _ _ _)
theorem aKw{W B:Addr->Prop}:∀ns:List Int,DUs W B H #v[x] (ns.map V.int)
 | []=>rfl
 |_::l=>#[_,_,rfl,#[rfl,rfl],aKw l]
def bDo(K:Ad)(F:TV)(L M:TVo):TV:=λρ R=>F ρ λs=>L ρ λlo=>M ρ λhi=>∃ns:List Int,s=.sh (.op (aJo K ns))/\R (.ow (mG #v[x] lo hi))
def aZa{X:Cx}{K:Ad}{a:Cr}{lo hi:Option Cr}{p2 pos:Pos}{F:TV}{L M:TVo}(hK:X.K=K)(ha:VE X a F)(hl:VO X lo L)(hh:VO X hi M):VE X (.Subscript a (.Slice lo hi none p2) pos) (bDo K F L M):=by
 subst hK;obtain⟨_,p,f⟩:=ha;obtain⟨_,p1,f1⟩:=hl;obtain⟨_,p2,f2⟩:=hh;refine#[_,aGz (aK9.or aRe) p p1 p2,λ{W B ρ σ H R Q} e h q=>f e h λs v H1 h1 w1 r1=>f1 (e.to w1) h1 λlo H2 h2 w2=>f2 ((e.to w1).to w2) h2 λhi H3 h3 w3=>?_];have e3:=((e.to w1).to w2).to w3;have ww:=(w1.trans w2).trans w3;obtain⟨ns,rfl,h3⟩:=h3;have d:DU W B H3 (.op (aJo X.K ns)) v:=DU.mono (((e.to w1).to w2).eb.keep w3) _ (DU.mono ((e.to w1).eb.keep w2) _ r1);obtain⟨a,rfl,ha⟩:=d;refine .inl #[a,ns.map V.int,rfl,ha.elim (λz=> .inl z.2) λz=>z H3,λp n=>?_];have f4:=e3.eb.new (o:=.lst (aAr (ns.map V.int) lo hi)) n;exact q _ _ _ h3 (ww.trans f4) (RO.back (s:=.ow _) ww #[p,_,rfl,n,aP,DUs.mono (λb o nb h=>#[λz=>z.elim nb (aR h n),(e3.eb.keep f4 b o nb h).2]) _ (aKw (W:=W) (B:=B) (H:=H3) ns).cut])
def aRo{α:Type}{g:Tk->U}{f:U->(Option U->Prop)->Prop}{Q:List U->Prop}{ys:List Tk}(hf:∀y∈ys,∀k:Option U->Prop,k (some (g y))->f (tkU y) k)(hq:Q (ys.map g)):jA f (ys.map tkU) [] Q:=by
 have key:∀(zs:List Tk)(af:List U),(∀y∈zs,∀k:Option U->Prop,k (some (g y))->f (tkU y) k)->Q (af++zs.map g)->jA f (zs.map tkU) af Q:=by
  intro zs;induction zs with
  |nil=>exactλaf _ q=>by rw[Gz,Bk]at q;exact q
  |cons z zs ih=>exactλaf hf q=>hf z Ah _ (ih _ (λy hy=>hf y (Af _ hy)) (by rw[Cz];exact q))
 exact key ys [] hf hq
def aGi(n:Nat)(ns:List Int):U.dts n #v[x]:=by
 induction ns with
 |nil=>cases n<;>trivial
 |cons r rs ih=>cases n<;>exact#[trivial,ih]
def zZ(n:Nat)(ys:List Tk):U.dts (n+2) (ys.map tkU):=by
 induction ys with
 |nil=>trivial
 |cons y ys ih=>exact#[#[trivial,aGi n y.2,trivial],ih]
def pU(p:List Int):U:=.tp (p.map U.n)
def ext(n:Int)(p:List Int):List (List Int):=(Bq n.toNat).map λ(i:Nat)=>p++[0+(i:Int)]
def rY(ns:List Int):List (List Int):=ns.foldl (λps n=>ps.flatMap (ext n)) [[]]
abbrev plU(ns:List Int):List U:=(rY ns).map pU
def spU(pl:List U)(n:Nat):List U:=(Bq n).flatMap λ(j:Nat)=>pl.map λu=> .tp [.n (1+(j:Int)),u]
theorem aAv(q:R (.sh u)):∀{xs:List Str}{us:List U}{k:Nat},xs.Nodup->xs[k]? =some x->us[k]? =some u->aBz x xs us R
 | [],_,_,_,h,_=>by simp at h
 |_::_,[],_,_,_,h=>by simp at h
 |a::xs,v::us,0,_,h1,h2=>by
  simp at h1 h2;subst h1 h2;exact .inl #[rfl,q]
 |a::xs,v::us,k+1,nd,h1,h2=>by
  have h1:xs[k]? =some x:=by simpa using h1
  refine .inr #[λe=>?_,aAv q (Dx.mp nd).2 h1 (by simpa using h2)];subst e;exact(Dx.mp nd).1 (Ai h1)
def aBi(pl:List U)(n:Nat):spU pl n++(pl.map λu=> .tp [.n (1+(n:Int)),u])=spU pl (n+1):=by
 unfold spU;rw[List.range_succ,Nz];simp
variable {CG CJ:Addr}
def aV0:Fv:=λus R=>∃(ps:List (List Int))(n:Int),us=[.ls (ps.map pU),.n n]/\0<=n/\n<=9/\(ps.flatMap (ext n)).length<=1000/\(∀p∈ps,p.length<=3)/\R (.ow ((ps.flatMap (ext n)).map pU))
def mW:aQ ["places","size","longer","place","number"] ["places","size"] (aC tK):={}
def aTk(F:Fun K "with_line" "with_line" tK f fd)(T:Txt mg):↥1 f fd ["places","size"] (spV aV0):=by
 refine vfn F mW (λae A outer s H E hr=>(aD (aZ (i:=2) mW.nd (bL aF)) (aD (cO Bl rfl (aX (aA 0)) (cR (i:=3) mW.nd) (aG (cO Bl rfl (eY T.range (aJ (aA 1) aM)) (cR (i:=4) mW.nd) (aG (vK 2 (cT dG fB (aA 3) (dO (aB (aA 4) aF)))))))) (aG (jU 2))))) ?_;rintro _ R ⟨ps,n,rfl,n0,n9,hl,hp,q⟩;refine#[rfl,?_];show iG (iC 3) _ _ (ps.map pU) _;refine bG (λl ρ=>∃(qs rest:List (List Int))(x y:Sl),l=rest.map pU/\ρ=[.sh (.ls (ps.map pU)),.sh (.n n),.ow (qs.map pU),x,y]/\(∀p∈rest,p.length<=3)/\qs++rest.flatMap (ext n)=ps.flatMap (ext n)) ?_ ?_ #[[],ps,_,_,rfl,rfl,hp,rfl]
 ·rintro ρ ⟨qs,rest,x,y,e,rfl,_,ee⟩;obtain rfl:rest=[]:=Bf.mp e.symm;rw[Xc,Bk]at ee;rw[<-ee]at q;exact q
 ·rintro u l ρ ⟨qs,rest0,x,y,e,rfl,h3,ee⟩ ih;cases rest0 with
  |nil=>cases e
  |cons p rest=>
   obtain⟨rfl,rfl⟩:=Dy e;have p3:=h3 p Ah;refine#[∅,∅,?_];refine bG (λl ρ=>∃(js:List Nat)(qs':List (List Int))(y:Sl),l=js.map (λi:Nat=>U.n (0+(i:Int)))/\ρ=[.sh (.ls (ps.map pU)),.sh (.n n),.ow (qs'.map pU),.sh (pU p),y]/\qs'++js.map (λi:Nat=>p++[0+(i:Int)])=qs++ext n p) ?_ ?_ #[Bq n.toNat,qs,_,rfl,rfl,rfl]
   ·rintro ρ ⟨js,qs',y,e,rfl,e2⟩;obtain rfl:js=[]:=Bf.mp e.symm;rw[Gz,Bk]at e2;exact ih _ #[qs',rest,_,_,rfl,rfl,λp hp=>h3 p (Af _ hp),by rw[e2,Cz];exact ee]
   ·rintro u l ρ ⟨js0,qs',y,e,rfl,e2⟩ ih2;cases js0 with
    |nil=>cases e
    |cons j js=>
     obtain⟨rfl,rfl⟩:=Dy e;have l2:=Ab9 Fm e2;have l3:=Ab9 Fm ee;simp only[Am,Ip,Ab,Ao]at l2 l3;refine#[by rw[Ab];lia,by rw[Ab];show _+1<=10000;lia,?_];have e3:(qs'.map pU++[U.tp (p.map U.n++[U.n (0+(j:Int))])])=(qs'++[p++[0+(j:Int)]]).map pU:=by
      rw[Co];show _=_++[U.tp ((p++[0+(j:Int)]).map U.n)];rw[Co];rfl
     exact ih2 _ #[js,qs'++[p++[0+(j:Int)]],.sh (.n (0+(j:Int))),rfl,by rw[<-e3];rfl,by rw[Cz];exact e2]
theorem xJ:∀(ms:List Int)(ps:List (List Int)),(∀n∈ms,1<=n)->ps.length<=(ms.foldl (λps n=>ps.flatMap (ext n)) ps).length
 | [],_,_=>Ak _
 |n::ms,ps,h=>by
  refine Dd ?_ (xJ ms (ps.flatMap (ext n)) λm hm=>h m (Af _ hm));have h1:=h n Ah;have el:∀p,(ext n p).length=n.toNat:=λp=>by unfold ext;rw[Ab,Dm]
  clear h;induction ps with
  |nil=>exact Bp _
  |cons p ps ih=>
   rw[Ip,Am,el,Ao]
   lia
def aVo(C:Addr):Fv:=λus R=>∃ns rs,us=[grU C ns rs]/\iW ns/\(rY ns).length<=40/\∀s,s=.ow (plU ns)∨s=.sh (.ls (plU ns))->R s
def fJ:aQ ["self","places","size"] ["self"] (aC jE):={}
def aS5(F:Fun K "all_places" "Grid.all_places" jE f fd)(cG:Cfl K C ["sizes","rims"])(aFv:⇑1 "with_line" ["places","size"] (spV aV0))(T:Txt mg):↥2 f fd ["self"] (spV (aVo C)):=by
 refine vfn F fJ (λae A outer s H E hr=>(aD (aZ (i:=1) fJ.nd (bL (aB (dO aF) aF))) (aD (cO Bl rfl (aX (dX cG (aA 0))) (cR (i:=2) fJ.nd) (fU 1 (aG (aZ (i:=1) fJ.nd (aL aFv (hr.mono ⋯) rfl (aB (aA 1) (aB (aA 2) aF))))))) (aG (jU 1))))) ?_;rintro _ R ⟨ns,rs,rfl,gs,hl,q⟩;refine#[rfl,rfl,.inl #[rfl,?_]];show iG (iC 2) _ _ #v[x] _;have l3:=gs.l3;refine bG (λl ρ=>∃(ms:List Int)(ps:List (List Int))(s x:Sl),l=ms.map U.n/\(s=.ow (ps.map pU)∨s=.sh (.ls (ps.map pU)))/\ρ=[.sh (grU C ns rs),s,x]/\(∀n∈ms,1<=n/\n<=9)/\(∀p∈ps,p.length+ms.length<=3)/\ms.foldl (λps n=>ps.flatMap (ext n)) ps=rY ns) ?_ ?_ #[ns,[[]],_,_,rfl,.inl rfl,rfl,gs.ok,λp hp=>by rw[Ap.mp hp];show 0+_<=3;lia,rfl]
 ·rintro ρ ⟨ms,ps,s,x,e,hs,rfl,_,_,ee⟩;obtain rfl:ms=[]:=Bf.mp e.symm;have ee:ps=rY ns:=ee;subst ee;rcases hs with rfl|rfl
  ·exact q _ (.inl rfl)
  ·exact q _ (.inr rfl)
 ·rintro u l ρ ⟨ms0,ps,s,x,e,hs,rfl,hm,h3,ee⟩ ih;cases ms0 with
  |nil=>cases e
  |cons n ms=>
   obtain⟨rfl,rfl⟩:=Dy e;have hn:=hm n Ah;have hm':∀x∈ms,1<=x/\x<=9:=λx hx=>hm x (Af _ hx);have ee:ms.foldl (λps n=>ps.flatMap (ext n)) (ps.flatMap (ext n))=rY ns:=ee;have le:=xJ ms (ps.flatMap (ext n)) λx hx=>(hm' x hx).1;rw[ee]at le;have nx:=ih [.sh (grU C ns rs),.ow ((ps.flatMap (ext n)).map pU),.sh (.n n)] ⟨ms,ps.flatMap (ext n),_,_,rfl,.inl rfl,rfl,hm',λp hp=>by
    obtain⟨p0,h0,h1⟩:=Fq.mp hp;obtain⟨i,_,rfl⟩:=Aj.mp h1;have:=h3 p0 h0;rw[Ao]at this;rw[Am];show _+1+_<=3;lia,ee⟩
   rcases hs with rfl|rfl
   ·exact#[ps,n,rfl,∅,∅,∅,λp hp=>by have:=h3 p hp;lia,nx]
   ·exact#[ps,n,rfl,∅,∅,∅,λp hp=>by have:=h3 p hp;lia,nx]
def aE1(pl:List U)(n:Nat)(h:pl.length<=40):(spU pl n).length<=40*n:=by
 induction n with
 |zero=>exact Ak _
 |succ n ih=>
  rw[<-aBi,Am,Ab]
  lia
def aVp(N:Cn)(CG CJ:Addr):Fv:=λus R=>∃ns rs t ys m r ls,us=[rR N CG CJ ns rs t ys m r ls]/\iW ns/\(rY ns).length<=40/\0<=r/\r<=12/\R (.ow (spU (plU ns) r.toNat))
abbrev yZ:List Str:=["self","places","spots","round_at"]
def gR:aQ ["self","places","spots","round_at"] ["self"] (aC iQ):={}
def aS6(F:Fun K "all_spots" "Job.all_spots" iQ f fd)(cJ:Cfl K CJ ["taken","grid","term","modulus","rounds","first"])(aDd:Dis P w K mg base CX0 2 (·=CG) "all_places" ["self"] λ_=>spV (aVo CG))(T:Txt mg):↥3 f fd ["self"] (spV (aVp N CG CJ)):=by
 refine vfn F gR (λae A outer s H E hr=>(aD (aZ (i:=1) gR.nd (cD (dX cJ (aA 0)) aDd (hr.mono ⋯))) (fU 1 (aD (aZ (i:=2) gR.nd (bL aF)) (aD (cO Bl rfl (aDb T.range (aJ aH (aJ (cT dG fB (dX cJ (aA 0)) aH) aM))) (cR (i:=3) gR.nd) (aG (yI 2 (dU (own:=["place"]) (cap:=[("round_at",3)]) (aC iQ) yZ rfl rfl (λx h=>aV h) #v[4] rfl (vic (aX (aA 1))) ↑(aW (i:=0) (~~~["place","round_at"]) rfl (Dl rfl) (Dr rfl)) (bC ⋯) ↑(dO (aB (aA 1) (aB (aA 0) aF))))))) (aG (jU 2))))))) ?_;rintro _ R ⟨ns,rs,t,ys,m,r,ls,rfl,gs,hl,r0,r12,q⟩;have pl40:(plU ns).length<=40:=by rw[Ab];exact hl
 have main:iG (iC 3) (aYt 2 (aBo 1 [("round_at",3)] (vLs (aNi 1)) (iC 0) (bB6 (aRs (aNi 1) (aRs (aNi 0) aRt))))) {nx:=aRu 2 {nx:=λ_=>R (.sh .no),rt:=R},rt:=R} (gU 1 (r+1-1).toNat) [.sh (rR N CG CJ ns rs t ys m r ls),.sh (.ls (plU ns)),.ow [],.no]:=by
  refine bG (λl ρ=>∃(k:Nat)(x:Sl),l=(Aa8 k (r.toNat-k)).map (λi:Nat=>U.n (1+(i:Int)))/\k<=r.toNat/\ρ=[.sh (rR N CG CJ ns rs t ys m r ls),.sh (.ls (plU ns)),.ow (spU (plU ns) k),x]) ?_ ?_ #[0,_,by rw[Uo, <-Ur,show(r+1-1)=r by lia];rfl,Bp _,rfl]
  ·rintro ρ ⟨k,x,e,hk,rfl⟩;have:k=r.toNat:=by
    have:=Ab9 Fm e;simp at this
    lia
   subst this;exact q
  ·rintro u l ρ ⟨k,x,e,hk,rfl⟩ ih;have hlt:k<r.toNat:=by
    have:=Ab9 Fm e;simp at this
    lia
   rw[show r.toNat-k=(r.toNat-(k+1))+1 by lia,Xb,Bj]at e;obtain⟨rfl,rfl⟩:=Dy e;have sl:=aE1 (plU ns) k pl40;refine#[∅,cC (h:=λu=> .tp [.n (1+(k:Int)),u]) (λu hu c hc=>hc) #[?_,?_]]
   ·rw[Bm,Ab];lia
   ·rw[Bm];exact ih _ #[k+1,_,rfl,hlt,by rw[<-aBi];rfl]
 refine#[rfl,rfl,.inr #[by decide+kernel,.inl #[rfl,rfl,rfl,ns,rs,rfl,gs,hl,λs hs=>?_]]];rcases hs with rfl|rfl
 all_goals
  refine#[rfl,show aBz "rounds" ["taken","grid","term","modulus","rounds","first"] _ _ from aAv (xs:=["taken","grid","term","modulus","rounds","first"]) (k:=4) (u:=.n r) ?_ #v[4] rfl rfl];exact#[#[∅,∅,∅,∅],main]
def pull{α:Type}{g:α->U}{p:α->Prop}{xs:List U}(h:∀x∈xs,∃a,x=g a/\p a):∃as:List α,xs=as.map g/\∀a∈as,p a:=by
 induction xs with
 |nil=>exact#[[],rfl,nofun]
 |cons x xs ih=>
  obtain⟨a,rfl,ha⟩:=h x Ah;obtain⟨as,rfl,hs⟩:=ih λy hy=>h y (Af _ hy);exact#[a::as,rfl,λb hb=>(Ax.mp hb).elim (λe=>e▸ha) (hs b)]
def cM(lo:Int)(n:Nat):(gU lo n).length=n:=by simp[gU]
def sG{l:List U}(h0:0<=r)(h:r<l.length):∃u∈l,atI l r=some u:=by
 obtain⟨n,rfl⟩:=Fp h0;have hn:n<l.length:=by lia
 exact#[l[n],Kj hn,bQ (Ag hn)]
def aPe(l m:List Int):D.eqs (U.ds (l.map U.n)) (U.ds (m.map U.n))=decide (l=m):=by
 induction l generalizing m with
 |nil=>cases m<;>rfl
 |cons a l ih=>
  cases m with
  |nil=>rfl
  |cons b m=>
   show(eqV (.int a) (.int b) && D.eqs (U.ds (l.map U.n)) (U.ds (m.map U.n)))=_;rw[ih];simp[eqV];rfl
def aRm(a b:Tk):U.eq (tkU a) (tkU b)=decide (a=b):=by
 show(eqV (.int a.1) (.int b.1) && (D.eqs (U.ds (a.2.map U.n)) (U.ds (b.2.map U.n)) && true))=_;rw[aPe];obtain⟨a1,a2⟩:=a;obtain⟨b1,b2⟩:=b;simp[eqV];rfl
def aUj(zs:List Tk)(p:Tk):((zs.map tkU).any λe=>e.eq (tkU p))=decide (p∈zs):=by
 rw[List.any_map,Xv,Xe,Ab7];exact#[λ⟨x,hx,h⟩=>by rw[<-Ab3 ((aRm x p).symm.trans h)];exact hx,λh=>#[p,h,(aRm p p).trans (Ab5 rfl)]]
def aVx:Fv:=λus R=>∃n:Int,us=[.n n]/\∀a b c:Int,R (.ow [.n a,.n b,.n c])
def aEs:aQ ["_law_cell"] ["_law_cell"] (aC tE):={}
def aTh(F:Fun K "_law_tape" "_law_tape" tE f fd)(T:Txt mg):↥1 f fd ["_law_cell"] (spV aVx):=by
 refine vfn F aEs (λae A outer s H E(hr:eZ 0 _)=>(aG (aU (bL (aB (cT xQ aGv (aA 0) aH) (aB (cT pD aGv (dD pP aAp T.int Sq (aJ (iB bAr cU (aA 0) (cT aXm aGv aH aH)) aM)) (aA 0)) (aB aH aF))))))) ?_;rintro _ R ⟨n,rfl,q⟩;have k:∀c:Bool, -(2 ^ 64)<(if c then 1 else 0:Int)/\(if c then 1 else 0:Int)<2 ^ 64:=λc=>by cases c<;>decide
 exact#[rfl,by show(0:Int)<2147483647;decide,#[⋯,⋯,⋯],.inl (k _),q _ _ _]
def wS:List (List Int):=[[3],[2,2],[4],[1],[2,1],[5],[2,1,2],[3,2]]
structure aJ6(ns:List Int)(rs:List Rim)(ys:List Tk)(r:Int):Prop where
 gs:iW ns
 p6:oG ns<=6
 rl:rs.length=ns.length
 ro:∀x∈rs,x.ok
 yl:ys.length<=3
 yn:ys.Nodup
 yg:∀y∈ys,aNq y/\y.2.length=ns.length
 r0:0<=r
 r5:r<=5
 sz:ns∈wS
def wD(ns:List Int)(rs:List Rim)(ys:List Tk)(r:Int):U:=.tp [.ls #v[x],.ls (rs.map Rim.u),.ls (ys.map tkU),.n r]
def aOx:Fv:=λus R=>us=[.wl]/\∀ns rs ys r,aJ6 ns rs ys r->R (.sh (wD ns rs ys r))
abbrev vN:List Str:=["_law_tape_here","_law_sizes","_law_rims","_law_takes","_law_k","_law_back","_law_steps"]
def eQ:aQ ["_law_tape_here","_law_sizes","_law_rims","_law_takes","_law_k","_law_back","_law_steps"] ["_law_tape_here"] (aC jN):={}
def aQd(F:Fun K "_law_world" "_law_world" jN f fd)(c__law_draw:⇑1 "_law_draw" ["_law_tape_here","_law_many"] (spV aF6))(T:Txt mg):↥2 f fd ["_law_tape_here"] (spV aOx):=by
 refine vfn F eQ (λae A outer s H E hr=>(aD (aZ (i:=1) eQ.nd (bI aY bH (bL (aB (bL (aB aH aF)) (aB (bL (aB aH (aB aH aF))) (aB (bL (aB aH aF)) (aB (bL (aB aH aF)) (aB (bL (aB aH (aB aH aF))) (aB (bL (aB aH aF)) (aB (bL (aB aH (aB aH (aB aH aF)))) (aB (bL (aB aH (aB aH aF))) aF))))))))) (aL c__law_draw (hr.mono ⋯) rfl (aB (aA 0) (aB aH aF))))) (aD (aR8 (i:=2) (own:=["_law_size"]) (cap:=[("_law_tape_here",0)]) eQ.nd (aC jN) vN rfl rfl (λx h=>aV h) #v[4] rfl (vic (aX (aA 1))) ↑(aW (i:=0) (~~~["_law_size","_law_tape_here"]) rfl (Dl rfl) (Dr rfl)) (bC ⋯) ↑(bI aY bH (bL (aB (dO (aB rH (aB aH aF))) (aB (dO (aB rH aF)) (aB (dO (aB rH aF)) aF)))) #v[d])) (aD (aZ (i:=3) eQ.nd (bL aF)) (aD (cO Bl rfl (eY T.range (aJ (bI aY bH (bL (aB aH (aB aH (aB aH (aB aH (aB aH (aB aH aF))))))) (aL c__law_draw (hr.mono ⋯) rfl (aB (aA 0) (aB aH aF)))) aM)) (cR (i:=4) eQ.nd) (aD (aZ (i:=5) eQ.nd (bI aY bH (bL (aB aH (aB aH (aB aH (aB aH aF))))) (aL c__law_draw (hr.mono ⋯) rfl (aB (aA 0) (aB aH aF))))) (aD (aZ (i:=6) eQ.nd (dD (aFy rfl) aOa T.tuple Os (aJ (dU (own:=["_law_size"]) (cap:=[("_law_tape_here",0)]) (aC jN) vN rfl rfl (λx h=>aV h) #v[4] rfl (vic (aX (aA 1))) ↑(aW (i:=0) (~~~["_law_size","_law_tape_here"]) rfl (Dl rfl) (Dr rfl)) (bC ⋯) ↑(cT sY cU #v[d] aH)) aM))) (aG (cB (bK (aC2 (huD hr)) aPp (dO (aB (aA 5) (aB (aA 6) aF))) (aA 3)) (aG (vK 3 (dO (aB (aA 5) (aB (aA 6) aF))))) bA))))) (fU 2 (fU 3 (aG (aU (dO (aB (aA 1) (aB (aA 2) (aB (aA 3) (aB (aL c__law_draw (hr.mono ⋯) rfl (aB (aA 0) (aB aH aF))) aF)))))))))))))) ?_;rintro _ R ⟨rfl,q⟩;refine#[rfl,8,rfl,⋯,⋯,λr r0 r8=>?_];obtain⟨u,hu,eu⟩:=sG (l:=[U.ls [.n 3],.ls [.n 2,.n 2],.ls [.n 4],.ls [.n 1],.ls [.n 2,.n 1],.ls [.n 5],.ls [.n 2,.n 1,.n 2],.ls [.n 3,.n 2]]) r0 r8;have key:∃ns:List Int,u=.ls #v[x]/\iW ns/\oG ns<=6/\ns∈wS:=by
  simp only[Ax,Cq,or_false]at hu;rcases hu with rfl|rfl|rfl|rfl|rfl|rfl|rfl|rfl
  ·exact#[[3],rfl,#[⋯,⋯,⋯,⋯],⋯,⋯]
  ·exact#[[2,2],rfl,#[⋯,⋯,⋯,⋯],⋯,⋯]
  ·exact#[[4],rfl,#[⋯,⋯,⋯,⋯],⋯,⋯]
  ·exact#[[1],rfl,#[⋯,⋯,⋯,⋯],⋯,⋯]
  ·exact#[[2,1],rfl,#[⋯,⋯,⋯,⋯],⋯,⋯]
  ·exact#[[5],rfl,#[⋯,⋯,⋯,⋯],⋯,⋯]
  ·exact#[[2,1,2],rfl,#[⋯,⋯,⋯,⋯],⋯,⋯]
  ·exact#[[3,2],rfl,#[⋯,⋯,⋯,⋯],⋯,⋯]
 obtain⟨ns,rfl,gs,p6,sz⟩:=key;have l3:=gs.l3;refine#[_,eu,by rw[Ab];lia,jB (λx=>∃a:Rim,x=a.u/\a.ok) (λu hu c hc=>#[3,rfl,⋯,⋯,λr r0 r3=>?_]) λxs xl xp=>?_]
 ·obtain⟨x,hx,ex⟩:=sG (l:=[U.tp [.s "fixed",.n 7],.tp [.s "mirror"],.tp [.s "round"]]) r0 r3;refine#[_,ex,hc _ ?_];simp only[Ax,Cq,or_false]at hx;rcases hx with rfl|rfl|rfl
  ·exact#[.fixed 7,rfl,⋯,⋯]
  ·exact#[.mirror,rfl,trivial]
  ·exact#[.round,rfl,trivial]
 obtain⟨rs,rfl,ro⟩:=pull xp;rw[Ab,Ab]at xl;refine#[6,rfl,⋯,⋯,λr r0 r6=>?_];obtain⟨u,hu,eu⟩:=sG (l:=[U.n 2,.n 1,.n 3,.n 2,.n 3,.n 0]) r0 r6;have key:∃m:Int,u=.n m/\0<=m/\m<=3:=by
  simp only[Ax,Cq,or_false]at hu;rcases hu with rfl|rfl|rfl|rfl|rfl|rfl<;>exact#[_,rfl,⋯,⋯]
 obtain⟨m,rfl,m0,m3⟩:=key;refine#[_,eu,∅,∅,?_];refine bG (λl ρ=>∃(ys:List Tk)(a b c:Sl),ρ=[.sh .wl,.sh (.ls #v[x]),.ow (rs.map Rim.u),.ow (ys.map tkU),a,b,c]/\ys.length+l.length<=3/\ys.Nodup/\∀y∈ys,aNq y/\y.2.length=ns.length) ?_ ?_ ?_
 rotate_left 2
 ·exact#[[],_,_,_,rfl,by simp[cM];lia,Ht,nofun]
 ·rintro ρ ⟨ys,a,b,c,rfl,yl,yn,yg⟩;exact#[6,rfl,⋯,⋯,λr r0 r6=>q ns rs ys r #[gs,p6,∅,ro,by simpa using yl,yn,yg,r0,∅,sz]]
 ·rintro u l ρ ⟨ys,a,b,c,rfl,yl,yn,yg⟩ ih;rw[Ao]at yl;refine#[4,rfl,⋯,⋯,λr r0 r4=>?_];obtain⟨u,hu,eu⟩:=sG (l:=[U.n 1,.n 1,.n 2,.n 3]) r0 r4;have key:∃m:Int,u=.n m/\1<=m/\m<=3:=by
   simp only[Ax,Cq,or_false]at hu;rcases hu with rfl|rfl|rfl|rfl<;>exact#[_,rfl,⋯,⋯]
  obtain⟨bk,rfl,b1,b3⟩:=key;refine#[_,eu,by rw[Ab];lia,jB (λx=>∃s:Int,x=.n s/\(-9<=s/\s<=9)) (λu hu c hc=>#[5,rfl,⋯,⋯,λt t0 t5=>hc _ #[_,rfl,∅]]) λxs xl xp=>?_];obtain⟨ss,rfl,hs⟩:=pull xp;rw[Ab,Ab]at xl;have e:(!((ys.map tkU).any λe=>e.eq (tkU (bk,ss))))= !decide ((bk,ss)∈ys):=by rw[aUj]
  have dts:=zZ 38 ys;have di:=aGi 38 ss;by_cases hm:(bk,ss)∈ys
  ·refine#[#[trivial,di,trivial],dts,λz=>?_,λ_=>ih _ #[ys,_,_,_,rfl,∅,yn,yg]];have z:(!((ys.map tkU).any λe=>e.eq (tkU (bk,ss))))=true:=z;rw[e,Ab5 hm]at z;cases z
  ·refine#[#[trivial,di,trivial],dts,λ_=>#[by rw[Ab];lia,ih _ #[ys++[(bk,ss)],_,_,_,by rw[Co];rfl,by rw[Am,Dw];lia,Ei.mpr #[yn,by simp,λa ha b hb=>by rw[Ap.mp hb];exactλe=>hm (e▸ha)],λy hy=>?_]],λz=>?_]
   ·rcases Bd.mp hy with h|h
    ·exact yg y h
    ·rw[Ap.mp h];exact#[#[b1,b3,hs],by show ss.length=_;lia]
   ·have z:(!((ys.map tkU).any λe=>e.eq (tkU (bk,ss))))=false:=z;rw[e,Ab6 hm]at z;cases z
def aD6:Fv:=λus R=>∃ns:List Int,us=[.ls #v[x]]/\iW ns/\(rY ns).length<=40/\R (.sh (.ls (plU ns)))
abbrev aBr:List Str:=["_law_sizes","_law_found","_law_size","_law_longer","_law_place"]
def eX:aQ ["_law_sizes","_law_found","_law_size","_law_longer","_law_place"] ["_law_sizes"] (aC lC):={}
def aSr(n:Int)(p:List Int):(gU 0 n.toNat).map (λu=>U.tp (p.map U.n++[u]))=(ext n p).map pU:=by
 unfold gU ext pU;simp[Ub]
def aMr(F:Fun K "_law_places" "_law_places" lC f fd)(T:Txt mg):↥1 f fd ["_law_sizes"] (spV aD6):=by
 refine vfn F eX (λae A outer s H E(hr:eZ 0 _)=>(aD (aZ (i:=1) eX.nd (bL (aB (dO aF) aF))) (fU 1 (aD (cO Bl rfl (aX (aA 0)) (cR (i:=2) eX.nd) (aD (aZ (i:=3) eX.nd (bL aF)) (aD (cO Bl rfl (aX (aA 1)) (cR (i:=4) eX.nd) (aG (yI 3 (dU (own:=["_law_k"]) (cap:=[("_law_place",4)]) (aC lC) aBr rfl rfl (λx h=>aV h) #v[4] rfl (vic (eY T.range (aJ (aA 2) aM))) ↑(aW (i:=0) (~~~["_law_k","_law_place"]) rfl (Dl rfl) (Dr rfl)) (bC ⋯) ↑(cT dG fB (aA 1) (dO (aB (aA 0) aF))))))) (fU 3 (aG (aZ (i:=1) eX.nd (aA 3))))))) (aG (jU 1)))))) ?_;rintro _ R ⟨ns,rfl,gs,l40,q⟩;have l3:=gs.l3;refine#[rfl,?_];refine bG (λl ρ=>∃(ms:List Int)(ps:List (List Int))(a b c:Sl),l=ms.map U.n/\ρ=[.sh (.ls #v[x]),.sh (.ls (ps.map pU)),a,b,c]/\(∀n∈ms,1<=n/\n<=9)/\(∀p∈ps,p.length+ms.length<=3)/\ms.foldl (λps n=>ps.flatMap (ext n)) ps=rY ns) ?_ ?_ #[ns,[[]],_,_,_,rfl,rfl,gs.ok,λp hp=>by rw[Ap.mp hp];show 0+_<=3;lia,rfl]
 ·rintro ρ ⟨ms,ps,a,b,c,el,rfl,_,_,ee⟩;obtain rfl:ms=[]:=Bf.mp el.symm;have ee:ps=rY ns:=ee;subst ee;exact q
 ·rintro u l ρ ⟨ms0,ps,a,b,c,el,rfl,hm,h3,ee⟩ ih;cases ms0 with
  |nil=>cases el
  |cons n ms=>
   obtain⟨rfl,rfl⟩:=Dy el;have hn:=hm n Ah;have hm':∀x∈ms,1<=x/\x<=9:=λx hx=>hm x (Af _ hx);have ee:ms.foldl (λps n=>ps.flatMap (ext n)) (ps.flatMap (ext n))=rY ns:=ee;have le:=xJ ms (ps.flatMap (ext n)) λx hx=>(hm' x hx).1;rw[ee]at le;show iG (iC 4) _ _ (ps.map pU) [.sh (.ls #v[x]),.sh (.ls (ps.map pU)),.sh (.n n),.ow [],c];refine bG (λl ρ=>∃(dn rs:List (List Int))(c:Sl),l=rs.map pU/\dn++rs=ps/\ρ=[.sh (.ls #v[x]),.sh (.ls (ps.map pU)),.sh (.n n),.ow ((dn.flatMap (ext n)).map pU),c]) ?_ ?_ #[[],ps,_,rfl,rfl,rfl]
   ·rintro ρ ⟨dn,rs,c,el,ed,rfl⟩;obtain rfl:rs=[]:=Bf.mp el.symm;rw[Bk]at ed;subst ed;exact ih _ ⟨ms,_,_,_,_,rfl,rfl,hm',λp hp=>by
     obtain⟨p0,h0,h1⟩:=Fq.mp hp;obtain⟨i,_,rfl⟩:=Aj.mp h1;have:=h3 p0 h0;rw[Ao]at this;rw[Am];show _+1+_<=3;lia,ee⟩
   ·rintro u l ρ ⟨dn,rs,c,el,ed,rfl⟩ ih2;cases rs with
    |nil=>cases el
    |cons p rs=>
     obtain⟨rfl,rfl⟩:=Dy el;have ll:(dn.flatMap (ext n)).length+(ext n p).length<=40:=by
      have:(ps.flatMap (ext n)).length=(dn.flatMap (ext n)).length+((ext n p).length+(rs.flatMap (ext n)).length):=by
       rw[<-ed,Nz,Am,Ip,Am]
      lia
     refine#[∅,∅,by rw[cM];lia,cC (h:=λu=> .tp (p.map U.n++[u])) (λu hu k hk=>#[?_,hk]) ?_]
     ·have:=h3 p (by rw[<-ed];simp);rw[Ab];show _+1<=10000;lia
     ·have ex:=aSr n p;refine#[by rw[Bm,ex,Ab,Ab];lia,ih2 _ #[dn++[p],rs,.sh (pU p),rfl,by rw[<-ed];simp,?_]];rw[Bm,ex,Nz,Co,Ip,Xc,Bk];rfl
def aIw:Fv:=λus R=>∃ns rs ys r,us=[wD ns rs ys r]/\aJ6 ns rs ys r/\(rY ns).length<=40/\∀s,s=.ow (spU (plU ns) r.toNat)->R s
abbrev aDl:List Str:=["_law_world_here","_law_found","_law_turn"]
def pJ:aQ ["_law_world_here","_law_found","_law_turn"] ["_law_world_here"] (aC mQ):={}
def aP8(F:Fun K "_law_spots" "_law_spots" mQ f fd)(oX:⇑1 "_law_places" ["_law_sizes"] (spV aD6))(T:Txt mg):↥2 f fd ["_law_world_here"] (spV aIw):=by
 refine vfn F pJ (λae A outer s H E hr=>(aD (aZ (i:=1) pJ.nd (bL aF)) (aD (cO Bl rfl (aDb T.range (aJ aH (aJ (cT dG fB #v[u] aH) aM))) (cR (i:=2) pJ.nd) (aG (yI 1 (dU (own:=["_law_place"]) (cap:=[("_law_turn",2)]) (aC mQ) aDl rfl rfl (λx h=>aV h) #v[4] rfl (vic (aX (aL oX (hr.mono ⋯) rfl (aB #v[u] aF)))) ↑(aW (i:=0) (~~~["_law_place","_law_turn"]) rfl (Dl rfl) (Dr rfl)) (bC ⋯) ↑(dO (aB (aA 1) (aB (aA 0) aF))))))) (aG (jU 1))))) ?_;rintro _ R ⟨ns,rs,ys,r,rfl,g,l40,q⟩;have r0:=g.r0;have r5:=g.r5;have pl40:(plU ns).length<=40:=by rw[Ab];exact l40
 refine#[rfl,_,rfl,#[∅,∅,∅,∅],?_];refine bG (λl ρ=>∃(k:Nat)(x:Sl),l=(Aa8 k (r.toNat-k)).map (λi:Nat=>U.n (1+(i:Int)))/\k<=r.toNat/\ρ=[.sh (wD ns rs ys r),.ow (spU (plU ns) k),x]) ?_ ?_ #[0,_,by rw[Uo, <-Ur,show(r+1-1)=r by lia];rfl,Bp _,rfl]
 ·rintro ρ ⟨k,x,e,hk,rfl⟩;have:k=r.toNat:=by
   have:=Ab9 Fm e;simp at this
   lia
  subst this;exact q _ rfl
 ·rintro u l ρ ⟨k,x,e,hk,rfl⟩ ih;have hlt:k<r.toNat:=by
   have:=Ab9 Fm e;simp at this
   lia
  rw[show r.toNat-k=(r.toNat-(k+1))+1 by lia,Xb,Bj]at e;obtain⟨rfl,rfl⟩:=Dy e;have sl:=aE1 (plU ns) k pl40;refine#[_,rfl,ns,rfl,g.gs,l40,∅,cC (h:=λu=> .tp [.n (1+(k:Int)),u]) (λu hu c hc=>hc) #[?_,?_]]
  ·rw[Bm,Ab];lia
  ·rw[Bm];exact ih _ #[k+1,_,rfl,hlt,by rw[<-aBi];rfl]
def spS(ns:List Int)(n:Nat):List Tk:=(Bq n).flatMap λ(j:Nat)=>(rY ns).map λp=>(1+(j:Int),p)
def aBj(ns:List Int)(n:Nat):spU (plU ns) n=(spS ns n).map tkU:=by
 unfold spU spS;rw[List.map_flatMap];congr 1;funext j;rw[Ba,Ba];rfl
def aO1{n:Int}(h:0<=n)(ps:List (List Int)):((ps.flatMap (ext n)).length:Int)=ps.length*n:=by
 induction ps with
 |nil=>simp
 |cons p ps ih=>
  rw[Ip,Am,Ao];have:(ext n p).length=n.toNat:=by unfold ext;rw[Ab,Dm]
  rw[this,Rg,ih,Rg,Abr]
  lia
theorem aGc:∀(ns:List Int)(ps:List (List Int)),(∀n∈ns,1<=n)->((ns.foldl (λps n=>ps.flatMap (ext n)) ps).length:Int)=ns.foldl (λa n=>a*n) (ps.length:Int)
 | [],_,_=>rfl
 |n::ns,ps,h=>by
  rw[Lc,Lc,aGc ns _ λx hx=>h x (Af _ hx),aO1 (by have:=h n Ah;lia)]
def aFo(h:∀n∈ns,1<=n):((rY ns).length:Int)=oG ns:=aGc ns [[]] h
def aAl(gs:iW ns):(rY ns).length<=40:=by
 have:=aFo λn hn=>(gs.ok n hn).1;have:=gs.mn
 lia
def Inn:List Int->List Int->Prop
 | [],l=>l=[]
 |n::ns,l=>∃x r,l=x::r/\0<=x/\x<n/\Inn ns r
def aW0{n:Int}{ps:List (List Int)}(h:ps.Nodup):(ps.flatMap (ext n)).Nodup:=by
 unfold Wk;rw[Tz];refine#[λp hp=>?_,h.imp λ{a b} h x hx y hy e=>?_]
 ·unfold ext;rw[Io];exact(Gw (n:=n.toNat)).imp λh e=>h (by have:=(Dy (List.append_cancel_left e)).1;lia)
 ·obtain⟨i,_,rfl⟩:=Aj.mp hx;obtain⟨j,_,rfl⟩:=Aj.mp hy;exact h (List.append_inj' e rfl).1
theorem aGd:∀{ns:List Int}{ps:List (List Int)},ps.Nodup->(ns.foldl (λps n=>ps.flatMap (ext n)) ps).Nodup
 | [],_,h=>h
 |n::ns,ps,h=>aGd (ns:=ns) (ps:=ps.flatMap (ext n)) (aW0 h)
def aRh(ns:List Int)(n:Nat):(spS ns n).Nodup:=by
 unfold Wk spS;rw[Tz];refine#[λj hj=>?_,(Gw (n:=n)).imp λ{a b} h x hx y hy e=>?_]
 ·rw[Io];exact(aGd (ns:=ns) (ps:=[[]]) (by simp)).imp λh e=>h (Ye e).2
 ·obtain⟨p,_,rfl⟩:=Aj.mp hx;obtain⟨p',_,rfl⟩:=Aj.mp hy;have:=(Ye e).1
  lia
def zW(gs:iW ns)(h:r<=12):(spS ns r.toNat).length<=480:=by
 have:=aE1 (plU ns) r.toNat (by rw[Ab];exact aAl gs);rw[aBj,Ab]at this
 lia
def fIn(ns:List Str):List U->(List Str->List U->Prop)->Prop:=λus R=>us.length=ns.length/\R ns us
def vD:aQ ["self","value"] ["self","value"] (aC jG):={}
def aP5(F:Fun K "__init__" "Number.__init__" jG f fd)(cN:Cfl K C ["value"]):↥1 f fd ["self","value"] (spI C (fIn ["value"])):=by
 refine F.ok vD (λvs H Q E h=>?_) (λae A outer s H vs Q E hr h=>?_)
 ·obtain⟨x,dx,vs',H1,W,B,us,R,rfl,_,_,_,_,ds,⟨l,_⟩,_⟩:=h;rw[Ao, <-ds.length,l];rfl
 ·obtain⟨x,dx,vs',H1,W,B,us,R,rfl,n1,hx,s1,eb,ds,⟨l,hR⟩,q⟩:=h;have nw:¬W x:=λz=>eb.dm x (eb.wb x z) n1;have f0:=eb.same s1;match us,l,vs',ds with
  | [u0],_,_,⟨v0,_,rfl,d0,rfl⟩=>
   refine#[_,(cV (fC (pv 0) (pv 1) rfl)),?_];refine#[v0,rfl,_,rfl,x,C,dx,_,rfl,hx,cN.cl,cN.na _ (by simp),by show(0:Nat)<1000;decide,?_];have key:∀{H'},Fw W H1 H'->H' x=some (.ins C dx ((["value"]:List Str).zip [v0]))->Q .non H':=λfw hx=>q ["value"] _ [v0] _ hR fw hx rfl #[_,_,rfl,DU.mono (eb.keep fw) _ d0,rfl];exact key (f0.upd n1 nw) aP
def xZ:aQ ["self","back","steps"] ["self","back","steps"] (aC lW):={}
def aP2(F:Fun K "__init__" "Take.__init__" lW f fd)(cN:Cfl K C ["back","steps"]):↥1 f fd ["self","back","steps"] (spI C (fIn ["back","steps"])):=by
 refine F.ok xZ (λvs H Q E h=>?_) (λae A outer s H vs Q E hr h=>?_)
 ·obtain⟨x,dx,vs',H1,W,B,us,R,rfl,_,_,_,_,ds,⟨l,_⟩,_⟩:=h;rw[Ao, <-ds.length,l];rfl
 ·obtain⟨x,dx,vs',H1,W,B,us,R,rfl,n1,hx,s1,eb,ds,⟨l,hR⟩,q⟩:=h;have nw:¬W x:=λz=>eb.dm x (eb.wb x z) n1;have f0:=eb.same s1;match us,l,vs',ds with
  | [u0,u1],_,_,⟨v0,_,rfl,d0,⟨v1,_,rfl,d1,rfl⟩⟩=>
   refine#[_,(bB (fC (pv 0) (pv 1) rfl) (cV (fC (pv 0) (pv 2) rfl))),?_];refine#[v0,rfl,_,rfl,x,C,dx,_,rfl,hx,cN.cl,cN.na _ (by simp),by show(0:Nat)<1000;decide,#[v1,rfl,_,rfl,x,C,dx,_,rfl,aP,cN.cl,cN.na _ (by simp),by show(1:Nat)<1000;decide,?_]];have key:∀{H'},Fw W H1 H'->H' x=some (.ins C dx ((["back","steps"]:List Str).zip [v0,v1]))->Q .non H':=λfw hx=>q ["back","steps"] _ [v0,v1] _ hR fw hx rfl #[_,_,rfl,DU.mono (eb.keep fw) _ d0,#[_,_,rfl,DU.mono (eb.keep fw) _ d1,rfl]];exact key ((f0.upd n1 nw).upd n1 nw) aP
def vG:aQ ["self","one","other"] ["self","one","other"] (aC jH):={}
def aGw(F:Fun K "__init__" "Paired.__init__" jH f fd)(cN:Cfl K C ["one","other"]):↥1 f fd ["self","one","other"] (spI C (fIn ["one","other"])):=by
 refine F.ok vG (λvs H Q E h=>?_) (λae A outer s H vs Q E hr h=>?_)
 ·obtain⟨x,dx,vs',H1,W,B,us,R,rfl,_,_,_,_,ds,⟨l,_⟩,_⟩:=h;rw[Ao, <-ds.length,l];rfl
 ·obtain⟨x,dx,vs',H1,W,B,us,R,rfl,n1,hx,s1,eb,ds,⟨l,hR⟩,q⟩:=h;have nw:¬W x:=λz=>eb.dm x (eb.wb x z) n1;have f0:=eb.same s1;match us,l,vs',ds with
  | [u0,u1],_,_,⟨v0,_,rfl,d0,⟨v1,_,rfl,d1,rfl⟩⟩=>
   refine#[_,(bB (fC (pv 0) (pv 1) rfl) (cV (fC (pv 0) (pv 2) rfl))),?_];refine#[v0,rfl,_,rfl,x,C,dx,_,rfl,hx,cN.cl,cN.na _ (by simp),by show(0:Nat)<1000;decide,#[v1,rfl,_,rfl,x,C,dx,_,rfl,aP,cN.cl,cN.na _ (by simp),by show(1:Nat)<1000;decide,?_]];have key:∀{H'},Fw W H1 H'->H' x=some (.ins C dx ((["one","other"]:List Str).zip [v0,v1]))->Q .non H':=λfw hx=>q ["one","other"] _ [v0,v1] _ hR fw hx rfl #[_,_,rfl,DU.mono (eb.keep fw) _ d0,#[_,_,rfl,DU.mono (eb.keep fw) _ d1,rfl]];exact key ((f0.upd n1 nw).upd n1 nw) aP
abbrev MkB(P:An)(w:Bh)(K:Ad)(mg:Str->#v[10])(base:Heap)(C:Addr)(x:Str)(ns:List Str):Prop:=MkU P w K mg base 1 C x ("self"::ns) (fIn ns)
def aVu(N:Cn)(CG CJ:Addr):Fv:=λus R=>∃ns rs ys r,us=[wD ns rs ys r,.wl]/\aJ6 ns rs ys r/\∀t ls zs,(∀z,z∈zs↔z∈ys)->zs.Pairwise (λx y=>xM x y=true)->R (.sh (rR N CG CJ ns rs t zs 97 r ls))
abbrev aAf:List Str:=["_law_world_here","_law_tape_here","_law_term","_law_back","_law_steps","_law_deep","_law_first"]
def gA:aQ ["_law_world_here","_law_tape_here","_law_term","_law_back","_law_steps","_law_deep","_law_first"] ["_law_world_here","_law_tape_here"] (aC kW):={}
def aTc(F:Fun K "_law_job" "_law_job" kW f fd)(M_Number:MkB P w K mg base N.num "Number" ["value"])(M_Take:MkB P w K mg base N.take "Take" ["back","steps"])(M_Added:MkB P w K mg base (N.bin false) "Added" ["one","other"])(M_Multiplied:MkB P w K mg base (N.bin true) "Multiplied" ["one","other"])
  (M_Grid:MkU P w K mg base 5 CG "Grid" ["self","sizes","rims"] aIs) (M_Job:MkU P w K mg base 14 CJ "Job" ["self","grid","term","modulus","rounds","first"] (aIt N CG))
  (c__law_draw:⇑1 "_law_draw" ["_law_tape_here","_law_many"] (spV aF6)) (oX:⇑1 "_law_places" ["_law_sizes"] (spV aD6)) (T:Txt mg):↥16 f fd ["_law_world_here","_law_tape_here"] (spV (aVu N CG CJ)):=by
 refine vfn F gA (λae A outer s H E hr=>(aD (aZ (i:=2) gA.nd (lF M_Number (hr.mono ⋯) (aB aH aF))) (aD (cO Bl rfl (aX #v[u]) (rJ rfl (cF (i:=3) gA.nd (cF (i:=4) gA.nd mX))) (aG (aZ (i:=2) gA.nd (lF M_Added (hr.mono ⋯) (aB (aA 2) (aB (lF M_Multiplied (hr.mono ⋯) (aB (lF M_Number (hr.mono ⋯) (aB (cT dG fB aH #v[d]) aF)) (aB (lF M_Take (hr.mono ⋯) (aB (aA 3) (aB (aA 4) aF))) aF))) aF)))))) (aD (aZ (i:=5) gA.nd (wN rfl T.max (aJ (dU (own:=["_law_back","_law_steps"]) (cap:=[]) (aC kW) aAf rfl rfl (λx h=>aV h) #v[4] rfl (vic (aX #v[u])) ↑(xR rfl (fY (aW (i:=0) (~~~["_law_back","_law_steps"]) rfl (Dl rfl) (Dr rfl)) (fY (aW (i:=1) (~~~["_law_back","_law_steps"]) rfl (Dl rfl) (Dr rfl)) tX))) (aBp (is:=[0,1]) rfl ⋯) ↑(aA 0)) aM) aH)) (aD (aZc (i:=6) (own:=["_law_turn"]) (cap:=[("_law_world_here",0),("_law_tape_here",1)]) aKu gA.nd (aC kW) aAf rfl rfl (λx h=>aV h) #v[4] rfl (vic (eY T.range (aJ (aA 5) aM))) (λcs cf C s2 H2 fp=>(aW (i:=0) (~~~["_law_turn","_law_world_here","_law_tape_here"]) rfl (Dl rfl) (Dr rfl))) (bC ⋯) (λcs cf C s2 H2 fp=>(aRz (own:=["_law_place"]) (icap:=[("_law_tape_here",2)]) (aC kW) cf rfl rfl #v[4] rfl (vic (aX (aL oX (hr.mono ⋯) rfl (aB (bI aY bH (aA 1) aH) aF)))) (λcl C' s3 H3 fp'=>(aW (i:=0) (~~~["_law_place","_law_tape_here"]) rfl (Dl rfl) (Dr rfl))) (bC ⋯) (λcl C' s3 H3 fp'=>#v[d])))) (fU 6 (aG (aU (lF M_Job (hr.mono ⋯) (aB (lF M_Grid (hr.mono ⋯) (aB (dD (eG rfl) kZ T.list Gh (aJ #v[u] aM)) (aB (dD (eG rfl) kZ T.list Gh (aJ #v[u] aM)) aF))) (aB (aA 2) (aB aH (aB #v[u] (aB (aA 6) aF)))))))))))))) ?_;rintro _ R ⟨ns,rs,ys,r,rfl,g,q⟩;have l1:=g.gs.l1;have l3:=g.gs.l3;have yl:=g.yl;have l40:=aAl g.gs;refine#[rfl,rfl,_,rfl,?_];refine bG (λl ρ=>∃(rest dn:List Tk)(t:Tm)(a b c e:Sl),l=rest.map tkU/\dn++rest=ys/\ρ=[.sh (wD ns rs ys r),.sh .wl,.sh (enc N t),a,b,c,e]/\raw t=dn/\Wf t/\((ht t=1/\rest.length<=3)∨ht t+rest.length<=5)/\rT t+4*rest.length<=13) ?_ ?_ #[ys,[],.num 3,_,_,_,_,rfl,rfl,rfl,rfl,#[⋯,⋯],.inl #[rfl,yl],by show 1+_<=13;lia]
 ·rintro ρ ⟨rest,dn,t,a,b,c,e,el,ed,rfl,er,hw,hh,hp⟩;obtain rfl:rest=[]:=Bf.mp el.symm;rw[Bk]at ed;subst ed;have pr:=aFo λn hn=>(g.gs.ok n hn).1;have p6:=g.p6;have r5:=g.r5;have r0:=g.r0;have rm:r*oG ns<=120:=Aa9 (Zi r5 p6 ∅ ⋯) ⋯;have gj:∀ls:List (List Int),ls.length<=3->(∀zs,vL t zs->(ls.length:Int)=dpt zs)->(∀l∈ls,GoodR (oG ns) 97 l)->aU1 ns rs t 97 r ls:=λls h3 hd hl=>
   #[g.gs,g.rl,g.ro,by rcases hh with h|h<;>lia,#[hw,λx hx=>#[(g.yg x (er▸hx)).1,by have:=(g.yg x (er▸hx)).2;lia,by have:=(g.yg x (er▸hx)).2;lia]],∅,#[∅,λx hx=>(g.yg x (er▸hx)).2,dn,∅,λx hx=>er▸hx],#[⋯,⋯],#[r0,∅],rm,hd,h3,hl]
  have yp:∀y∈dn,1<=y.1/\y.1<=3:=λy hy=>#[(g.yg y hy).1.1,(g.yg y hy).1.2.1];have mem:∀{zs},vL t zs->∀z,z∈zs↔z∈dn:=λh z=>by rw[h.2 z,er]
  refine#[_,rfl,by rw[Ab];lia,aRo (g:=λy=> .n y.1) (α:=Unit) (λy hy k hk=>#[rfl,hk]) #[dn.map (·.1),by rw[Ba];rfl,λh=>?_,λm hm ha=>?_]]
  ·have dq:∀zs,vL t zs->dpt zs=1:=λzs hz=>by
    have e0:=Bf.mp h;have:zs=[]:=List.eq_nil_iff_forall_not_mem.mpr λz hz'=>by have:=(mem hz z).mp hz';rw[e0]at this;cases this
    rw[this];rfl
   refine#[∅,∅,by rw[cM];lia,jB (λx=>∃l:List Int,x=.ls (l.map U.n)/\GoodR (oG ns) 97 l) (λu hu c hc=>?_) λxs xl xp=>?_]
   ·refine#[_,rfl,ns,rfl,g.gs,l40,by rw[Ab];lia,jB (λx=>∃v:Int,x=.n v/\(0<=v/\v<97)) (λu hu c hc=>#[97,rfl,⋯,⋯,λv v0 v97=>hc _ #[v,rfl,v0,v97]]) λxs xl xp=>?_];obtain⟨l,rfl,hl⟩:=pull xp;rw[Ab,Ab]at xl;exact hc _ #[l,rfl,∅,∅,hl]
   ·obtain⟨ls,rfl,hl⟩:=pull xp;rw[Ab,cM]at xl;refine#[_,rfl,_,rfl,#[ns,rs,rfl,g.gs,g.rl,g.ro,_,rfl,ns,rs,t,97,r,ls,rfl,gj ls ∅ (λzs hz=>by have:=dq zs hz;lia) hl,λzs hz=>q t ls zs (mem hz) hz.1]]
  ·have dq:∀zs,vL t zs->dpt zs=m:=λzs hz=>by
    obtain⟨y,hy,e⟩:=Aj.mp hm;refine aOf (λy hy=>by have:=yp y ((mem hz y).mp hy);lia) (Aj.mpr #[y,(mem hz y).mpr hy,e]) λa ha'=>?_;obtain⟨z,hz',e'⟩:=Aj.mp ha';exact ha a (Aj.mpr #[z,(mem hz z).mp hz',e'])
   have m13:1<=m/\m<=3:=by
    obtain⟨y,hy,e⟩:=Aj.mp hm;have:=yp y hy
    lia
   refine#[∅,∅,by rw[cM];lia,jB (λx=>∃l:List Int,x=.ls (l.map U.n)/\GoodR (oG ns) 97 l) (λu hu c hc=>?_) λxs xl xp=>?_]
   ·refine#[_,rfl,ns,rfl,g.gs,l40,by rw[Ab];lia,jB (λx=>∃v:Int,x=.n v/\(0<=v/\v<97)) (λu hu c hc=>#[97,rfl,⋯,⋯,λv v0 v97=>hc _ #[v,rfl,v0,v97]]) λxs xl xp=>?_];obtain⟨l,rfl,hl⟩:=pull xp;rw[Ab,Ab]at xl;exact hc _ #[l,rfl,∅,∅,hl]
   ·obtain⟨ls,rfl,hl⟩:=pull xp;rw[Ab,cM]at xl;refine#[_,rfl,_,rfl,#[ns,rs,rfl,g.gs,g.rl,g.ro,_,rfl,ns,rs,t,97,r,ls,rfl,gj ls ∅ (λzs hz=>by have:=dq zs hz;lia) hl,λzs hz=>q t ls zs (mem hz) hz.1]]
 ·rintro u l ρ ⟨rest0,dn,t,a,b,c,e,el,ed,rfl,er,hw,hh,hp⟩ ih;cases rest0 with
  |nil=>cases el
  |cons y rest=>
   obtain⟨rfl,rfl⟩:=Dy el;rw[Ao]at hh hp;refine#[rfl,4,rfl,⋯,⋯,λv v0 v4=>#[rfl,rfl,rfl,rfl,ih _ #[rest,dn++[y],.bin false t (.bin true (.num (1+v)) (.take y.1 y.2)),_,_,_,_,rfl,by rw[<-ed];simp,rfl,?_,?_,?_,?_]]]
   ·simp[raw,er]
   ·exact#[hw,#[∅,∅],trivial]
   ·right;simp only[ht];lia
   ·simp only[rT];lia
def aRg(h:q∈spS ns n):1<=q.1/\q.1<=n/\Inn ns q.2:=by
 obtain⟨j,hj,h⟩:=Fq.mp h;obtain⟨p,hp,rfl⟩:=Aj.mp h;have hj:=By.mp hj;refine#[by show 1<=1+(j:Int);lia,by show 1+(j:Int)<=n;lia,?_];have key:∀(ns:List Int)(ps:List (List Int))(p:List Int),p∈ns.foldl (λps n=>ps.flatMap (ext n)) ps->∃p0∈ps,∃l,p=p0++l/\Inn ns l:=by
  intro ns;induction ns with
  |nil=>exactλps p h=>#[p,h,[],by simp,rfl]
  |cons n ns ih=>
   intro ps p h;obtain⟨p1,h1,l,rfl,hl⟩:=ih _ p h;obtain⟨p0,h0,h2⟩:=Fq.mp h1;obtain⟨i,hi,rfl⟩:=Aj.mp h2;have hi:=By.mp hi;exact#[p0,h0,(0+(i:Int))::l,by simp,_,_,rfl,∅,∅,hl]
 obtain⟨p0,h0,l,rfl,hl⟩:=key ns [[]] p hp;rw[Ap.mp h0];exact hl
def Inn.len{ns l:List Int}(h:Inn ns l):l.length=ns.length:=by
 induction ns generalizing l with
 |nil=>rw[show l=[]from h]
 |cons n ns ih=>obtain⟨x,r,rfl,_,_,h⟩:=h;simp[ih h]
def Inn.zip{ns l:List Int}(h:Inn ns l):∀u∈wW (l.map U.n) #v[x],∃x n:Int,u=.tp [.n x,.n n]/\0<=x/\x<n:=by
 induction ns generalizing l with
 |nil=>rw[show l=[]from h];exact nofun
 |cons n ns ih=>
  obtain⟨x,r,rfl,h0,h1,h⟩:=h;intro u hu;rcases Ax.mp hu with rfl|hu
  ·exact#[x,n,rfl,h0,h1]
  ·exact ih h u hu
def aZ1(C:Addr):Fv:=λus R=>∃(ns:List Int)(rs:List Rim)(p:List Int),us=[grU C ns rs,.tp (p.map U.n)]/\iW ns/\Inn ns p/\R #v[y]
abbrev wY:List Str:=["self","thing"]
def wF:aQ ["self","thing"] ["self","thing"] (aC gO):={}
def aXi(F:Fun K "has_place" "Grid.has_place" gO f fd)(cG:Cfl K C ["sizes","rims"])(c_is_within:#v[j])(D_lines:Dis P w K mg base CX0 1 (·=C) "lines" ["self"] λ_=>spV (aIu C))(T:Txt mg):↥3 f fd ["self","thing"] (spV (aZ1 C)):=by
 refine vfn F wF (λae A outer s H E hr=>(aD (cB (iM (jV (cI (cL (iU .tp nofun T.isinstance T.tuple Os (aA 1)))) (fK (bK (lU (huD hr)) dC (aO aK bF T.len Cf (aJ (aA 1) aM)) (cD (aA 0) D_lines (hr.mono ⋯)))))) (aG (aU jR)) bA) (aG (aU (aO iZ (qP rfl) T.all Nh (aJ (dU (own:=["number","size"]) (cap:=[]) (aC gO) wY rfl rfl (λx h=>aV h) #v[4] rfl (vic (aZb T.zip (aB (aA 1) (aB (dX cG (aA 0)) aF)))) ↑(xR rfl (fY (aW (i:=0) (~~~["number","size"]) rfl (Dl rfl) (Dr rfl)) (fY (aW (i:=1) (~~~["number","size"]) rfl (Dl rfl) (Dr rfl)) tX))) (aBp (is:=[0,1]) rfl ⋯) ↑(aL c_is_within (hr.mono ⋯) rfl (aB (aA 0) (aB aH (aB (cT sY cU (aA 1) aH) aF))))) aM)))))) ?_;rintro _ R ⟨ns,rs,p,rfl,gs,hp,q⟩;have el:p.length=ns.length:=hp.len;have l3:=gs.l3;refine#[rfl,_,rfl,nofun,λ_=>#[rfl,rfl,ns,rs,rfl,trivial,trivial,λz=>?_,λ_=>?_]]
 ·have z:(!(U.eq (.n ((p.map U.n).length:Nat)) (.n (ns.length:Nat))))=true:=z;rw[Ab,el,show U.eq (.n (ns.length:Nat)) (.n (ns.length:Nat))=true from Ac0 _]at z;cases z
 ·refine#[rfl,.inl #[rfl,by rw[Ab,Ab];lia,by simp[wW];lia,cC (h:=λ_=> .b true) (λu hu k hk=>?_) ?_]]
  ·obtain⟨x,n,rfl,h0,h1⟩:=hp.zip u hu;refine#[rfl,_,_,_,_,rfl,rfl,?_];show k (some (.b (isIn (.n x) 0 (n-1))));rw[show isIn (.n x) 0 (n-1)=true by simp[isIn];lia];exact hk
  ·refine#[(wW (p.map U.n) #v[x]).map λ_=>true,by rw[Ba];rfl,?_];exact Rbl q (by simp)
def aKp(N:Cn)(CG CJ:Addr):Fv:=λus R=>∃ns rs t ys m r ls,∃q:Tk,us=[rR N CG CJ ns rs t ys m r ls,tkU q]/\iW ns/\0<=r/\q∈spS ns r.toNat/\R #v[y]
def aBg:aQ ["self","thing"] ["self","thing"] (aC pG):={}
def aMl(F:Fun K "is_spot" "Job.is_spot" pG f fd)(cJ:Cfl K CJ ["taken","grid","term","modulus","rounds","first"])(c_is_within:#v[j])(aFb:Dis P w K mg base CX0 3 (·=CG) "has_place" ["self","thing"] λ_=>spV (aZ1 CG))(T:Txt mg):↥4 f fd ["self","thing"] (spV (aKp N CG CJ)):=by
 refine vfn F aBg (λae A outer s H E hr=>(aD (cB (iM (jV (cI (cL (iU .tp nofun T.isinstance T.tuple Os (aA 1)))) (fK (bK (lU (huD hr)) dC (aO aK bF T.len Cf (aJ (aA 1) aM)) aH)))) (aG (aU jR)) bA) (aG (aU (lY (aL c_is_within (hr.mono ⋯) rfl (aB (bI aY bH (aA 1) aH) (aB aH (aB (dX cJ (aA 0)) aF)))) (lZ (aLc (dX cJ (aA 0)) aFb (hr.mono ⋯) (aB (bI aY bH (aA 1) aH) aF)))))))) ?_;rintro _ R ⟨ns,rs,t,ys,m,r,ls,q0,rfl,gs,r0,hq,q⟩;obtain⟨h1,h2,hi⟩:=aRg hq;refine#[rfl,_,rfl,nofun,λ_=>#[trivial,trivial,λz=>?_,λ_=>?_]]
 ·have z:false=true:=z;cases z
 refine#[_,rfl,rfl,show aBz "rounds" ["taken","grid","term","modulus","rounds","first"] _ _ from aAv (xs:=["taken","grid","term","modulus","rounds","first"]) (k:=4) (u:=.n r) ?_ #v[4] rfl rfl];refine#[_,_,_,_,rfl,rfl,λ_=>?_,λz=>?_]
 ·refine#[rfl,show aBz "grid" ["taken","grid","term","modulus","rounds","first"] _ _ from aAv (xs:=["taken","grid","term","modulus","rounds","first"]) (k:=1) (u:=grU CG ns rs) ?_ #v[4] rfl rfl];exact#[rfl,by decide+kernel,_,rfl,ns,rs,q0.2,rfl,gs,hi,q]
 ·have z:isIn (.n q0.1) 1 r=false:=z;have:isIn (.n q0.1) 1 r=true:=by simp[isIn];lia
  rw[this]at z;cases z
def aD5(N:Cn)(CG CJ:Addr):Fv:=λus R=>∃ns rs t ys m r ls,∃l:List Tk,us=[rR N CG CJ ns rs t ys m r ls,.ls (l.map tkU)]/\iW ns/\0<=r/\l.length<=480/\(∀q∈l,q∈spS ns r.toNat)/\R #v[y]
abbrev aFj:List Str:=["job","thing"]
def aEw:aQ ["job","thing"] ["job","thing"] (aC oK):={}
def aPs(F:Fun K "are_spots" "are_spots" oK f fd)(aLi:Dis P w K mg base CX0 4 (·=CJ) "is_spot" ["self","thing"] λ_=>spV (aKp N CG CJ))(T:Txt mg):↥5 f fd ["job","thing"] (spV (aD5 N CG CJ)):=by
 refine vfn F aEw (λae A outer s H E hr=>(aG (aU (lY (iU .ls nofun T.isinstance T.list Gh (aA 1)) (lZ (aO iZ (qP rfl) T.all Nh (aJ (dU (own:=["spot"]) (cap:=[("job",0)]) (aC oK) aFj rfl rfl (λx h=>aV h) #v[4] rfl (vic (aX (aA 1))) ↑(aW (i:=0) (~~~["spot","job"]) rfl (Dl rfl) (Dr rfl)) (bC ⋯) ↑(aLc (aA 1) aLi (hr.mono ⋯) (aB (aA 0) aF))) aM))))))) ?_;rintro _ R ⟨ns,rs,t,ys,m,r,ls,l,rfl,gs,r0,ll,hl,q⟩;refine#[rfl,_,rfl,λ_=>?_,nofun];refine#[by rw[Ab];lia,cC (h:=λ_=> .b true) (λu hu k hk=>?_) ?_]
 ·obtain⟨q0,hq,rfl⟩:=Aj.mp hu;exact#[rfl,by decide+kernel,ns,rs,t,ys,m,r,ls,q0,rfl,gs,r0,hl q0 hq,hk]
 ·refine#[(l.map tkU).map λ_=>true,by rw[Ba,Ba,Ba];rfl,?_];exact Rbl q (by simp)
def aVr(N:Cn)(CG CJ:Addr):Fv:=λus R=>∃ns rs t ys m r ls,∃l:List Tk,us=[rR N CG CJ ns rs t ys m r ls,.ls (l.map tkU)]/\iW ns/\0<=r/\l.length<4/\(∀q∈l,q∈spS ns r.toNat)/\l.Nodup/\R #v[y]
def aB6:aQ ["job","thing"] ["job","thing"] (aC qX):={}
def aS8(F:Fun K "are_wanted" "are_wanted" qX f fd)(lH:⇑5 "are_spots" ["job","thing"] (spV (aD5 N CG CJ)))(T:Txt mg):↥6 f fd ["job","thing"] (spV (aVr N CG CJ)):=by
 refine vfn F aB6 (λae A outer s H E hr=>(aG (aU (lY (aL lH (hr.mono ⋯) rfl (aB (aA 0) (aB (aA 1) aF))) (lZ (iB (eO (huD hr)) dC (aUq hr rfl T.len T.set (aJ (aA 1) aM)) (aO aK bF T.len Cf (aJ (aA 1) aM)))))))) ?_;rintro _ R ⟨ns,rs,t,ys,m,r,ls,l,rfl,gs,r0,ll,hl,nd,q⟩;refine#[rfl,ns,rs,t,ys,m,r,ls,l,rfl,gs,r0,∅,hl,λ_=>?_,nofun];refine#[l,rfl,ll,λn hn=>#[trivial,trivial,?_]];have e:U.eq (.n (n:Nat)) (.n ((l.map tkU).length:Nat))=true:=by rw[Ab,hn nd];exact Ac0 _
 show R (.sh (.b (U.eq (.n (n:Nat)) (.n ((l.map tkU).length:Nat)))));rw[e];exact q
abbrev pcU(ps:List (List Tk)):List U:=ps.map λp=> .ls (p.map tkU)
abbrev rwU(rs:#v[f]):List U:=rs.map λr=> .ls (r.map λn:Nat=>U.n n)
abbrev prU(ps:List (Nat×Nat)):List U:=ps.map λp=> .tp [.n p.1,.n p.2]
def aU2(ns:List Int)(r:Int)(ps:List (List Tk)):Prop:=ps.length<=120/\∀p∈ps,p≠[]/\p.length<=480/\∀q∈p,q∈spS ns r.toNat
def aVq(N:Cn)(CG CJ:Addr):Fv:=λus R=>∃ns rs t ys m r ls,∃ps:List (List Tk),us=[rR N CG CJ ns rs t ys m r ls,.ls (pcU ps)]/\iW ns/\0<=r/\aU2 ns r ps/\R #v[y]
abbrev aDm:List Str:=["job","thing"]
def aB5:aQ ["job","thing"] ["job","thing"] (aC mR):={}
def aS7(F:Fun K "are_pieces" "are_pieces" mR f fd)(lH:⇑5 "are_spots" ["job","thing"] (spV (aD5 N CG CJ)))(T:Txt mg):↥6 f fd ["job","thing"] (spV (aVq N CG CJ)):=by
 refine vfn F aB5 (λae A outer s H E hr=>(aD (cB (cI (cL (iU .ls nofun T.isinstance T.list Gh (aA 1)))) (aG (aU jR)) bA) (aG (aU (aO iZ (qP rfl) T.all Nh (aJ (dU (own:=["piece"]) (cap:=[("job",0)]) (aC mR) aDm rfl rfl (λx h=>aV h) #v[4] rfl (vic (aX (aA 1))) ↑(aW (i:=0) (~~~["piece","job"]) rfl (Dl rfl) (Dr rfl)) (bC ⋯) ↑(lY (aL lH (hr.mono ⋯) rfl (aB (aA 1) (aB (aA 0) aF))) (lZ (iB lL cU #v[c] aH)))) aM)))))) ?_;rintro _ R ⟨ns,rs,t,ys,m,r,ls,ps,rfl,gs,r0,gp,q⟩;refine#[rfl,_,rfl,nofun,λ_=>?_];have pl:=gp.1;refine#[by rw[Ab];lia,cC (h:=λ_=> .b true) (λu hu k hk=>?_) ?_]
 ·obtain⟨p,hp,rfl⟩:=Aj.mp hu;obtain⟨p0,p1,p2⟩:=gp.2 p hp;refine#[ns,rs,t,ys,m,r,ls,p,rfl,gs,r0,p1,p2,λ_=>?_,nofun];have:0<(p.map tkU).length:=by rw[Ab];exact Eg.mpr p0
  show k (some (.b (decide (((p.map tkU).length:Int)>0))));rw[Ab5 ∅];exact hk
 ·refine#[(pcU ps).map λ_=>true,by rw[Ba,Ba,Ba];rfl,?_];exact Rbl q (by simp)
def aIr:Fv:=λus R=>∃(l:List Nat)(n:Nat),(us=[.ls (l.map λn:Nat=>U.n n),.n n]∨us=[.tp (l.map λn:Nat=>U.n n),.n n])/\l.length<=10000/\(∀x∈l,x<n)/\R #v[y]
abbrev aFh:List Str:=["things","many"]
def aEt:aQ ["things","many"] ["things","many"] (aC oH):={}
def aPt(F:Fun K "are_below" "are_below" oH f fd)(c_is_within:#v[j])(T:Txt mg):↥3 f fd ["things","many"] (spV aIr):=by
 refine vfn F aEt (λae A outer s H E hr=>(aG (aU (aO iZ (qP rfl) T.all Nh (aJ (dU (own:=["thing"]) (cap:=[("many",1)]) (aC oH) aFh rfl rfl (λx h=>aV h) #v[4] rfl (vic (bCb (aX (aA 0)) (aR7 (aA 0)))) ↑(aW (i:=0) (~~~["thing","many"]) rfl (Dl rfl) (Dr rfl)) (bC ⋯) ↑(aL c_is_within (hr.mono ⋯) rfl (aB (aA 0) (aB aH (aB (cT sY cU (aA 1) aH) aF))))) aM))))) ?_;rintro _ R ⟨l,n,eu,ll,hl,q⟩;have kl:(l.map λn:Nat=>U.n n).length<=10000:=by rw[Ab];exact ll
 rcases eu with rfl|rfl
 ·refine#[rfl,.inl #[kl,cC (h:=λ_=> .b true) (λu hu k hk=>?_) ?_]]
  ·obtain⟨x,hx,rfl⟩:=Aj.mp hu;refine#[_,_,_,_,rfl,rfl,?_];have:=hl x hx;show k (some (.b (isIn (.n x) 0 ((n:Int)-1))));rw[show isIn (.n (x:Int)) 0 ((n:Int)-1)=true by simp[isIn];lia];exact hk
  ·exact#[(l.map λn:Nat=>U.n n).map λ_=>true,by rw[Ba,Ba,Ba];rfl,Rbl q (by simp)]
 ·refine#[rfl,.inr #[kl,cC (h:=λ_=> .b true) (λu hu k hk=>?_) ?_]]
  ·obtain⟨x,hx,rfl⟩:=Aj.mp hu;refine#[_,_,_,_,rfl,rfl,?_];have:=hl x hx;show k (some (.b (isIn (.n x) 0 ((n:Int)-1))));rw[show isIn (.n (x:Int)) 0 ((n:Int)-1)=true by simp[isIn];lia];exact hk
  ·exact#[(l.map λn:Nat=>U.n n).map λ_=>true,by rw[Ba,Ba,Ba];rfl,Rbl q (by simp)]
theorem aEf:∀(l m:List Nat),D.eqs (U.ds (l.map λn:Nat=>U.n n)) (U.ds (m.map λn:Nat=>U.n n))=decide (l=m)
 | [],[]=>rfl
 | [],_::_=>rfl
 |_::_,[]=>rfl
 |a::l,b::m=>by
  show(eqV (.int a) (.int b) && D.eqs (U.ds (l.map λn:Nat=>U.n n)) (U.ds (m.map λn:Nat=>U.n n)))=_;rw[aEf l m];simp[eqV];by_cases h:a=b<;>simp[h]
  lia
theorem aA5(n:Nat):∀l:List Nat,U.dts n (l.map λn:Nat=>U.n n)
 | []=>by rw[Gz,U.dts];trivial
 |i::l=>by
  rw[Bj,U.dts];exact#[by rw[U.dt];trivial,aA5 n l]
def Shared(rs:#v[f])(n:Nat):Prop:=rs.flatten.Perm (Bq n)
def aJs{ms:List Int}{l:List Nat}(h:ms.Perm (l.map λn:Nat=>(n:Int)))(p:ms.Pairwise (·<=·))(hl:l.Perm (Bq n)):ms=(Bq n).map λn:Nat=>(n:Int):=by
 refine List.Perm.eq_of_pairwise (le:=(·<=·)) (λa b _ _ h1 h2=>Int.le_antisymm h1 h2) p ?_ (h.trans (hl.map _));rw[Io];exact(Ts (n:=n)).imp λh=>by lia
def aD7:Fv:=λus R=>∃(rs:#v[f])(n:Nat),us=[.ls (rwU rs),.n n]/\Shared rs n/\n<64/\rs.length<=100/\R #v[y]
def jO:aQ ["thing","many","numbers","row"] ["thing","many"] (aC kY):={}
def aMs(F:Fun K "are_shared_out" "are_shared_out" kY f fd)(sI:⇑3 "are_below" ["things","many"] (spV aIr))(T:Txt mg):↥4 f fd ["thing","many"] (spV aD7):=by
 refine vfn F jO (λae A outer s H E hr=>(aD (cB (cI (cL (iU .ls nofun T.isinstance T.list Gh (aA 0)))) (aG (aU jR)) bA) (aD (aZ (i:=2) jO.nd (bL aF)) (aD (cO Bl rfl (aX (aA 0)) (cR (i:=3) jO.nd) (aD (cB (iM (jV (cI (cL (iU .ls nofun T.isinstance T.list Gh (aA 3)))) (fK (cI (cL (aL sI (hr.mono ⋯) rfl (aB (aA 3) (aB (aA 1) aF)))))))) (aG (aU jR)) bA) (aG (yI 2 (aA 3))))) (aG (aU (iB (eO (huD hr)) dC (aO yK aKj T.sorted To (aJ (aA 2) aM)) (bB9 rfl T.list T.range (aJ (aA 1) aM))))))))) ?_;rintro _ R ⟨rs,n,rfl,sh,n64,rl,q⟩;have fl:rs.flatten.length=n:=by rw[sh.length_eq,Dm]
 refine#[rfl,_,rfl,nofun,λ_=>?_];refine bG (λl ρ=>∃(dn rst:#v[f])(a:Sl),l=rwU rst/\dn++rst=rs/\ρ=[.sh (.ls (rwU rs)),.sh (.n n),.ow (dn.flatten.map λn:Nat=>U.n n),a]) ?_ ?_ #[[],rs,_,rfl,rfl,rfl]
 ·rintro ρ ⟨dn,rst,a,el,ed,rfl⟩;obtain rfl:rst=[]:=Bf.mp el.symm;rw[Bk]at ed;subst ed;refine#[dn.flatten.map λn:Nat=>(n:Int),by rw[Ba];rfl,by rw[Ab];lia,λms h1 h2=>?_];obtain rfl:=aJs h1 h2 sh;have e:gU 0 n=(Bq n).map λn:Nat=>U.n n:=by
   unfold gU;exact Lb λi _=>by simp
  refine#[n,rfl,∅,?_];rw[e];have e2:((Bq n).map λn:Nat=>(n:Int)).map U.n=(Bq n).map λn:Nat=>U.n n:=by rw[Ba];rfl
  rw[e2];refine#[aA5 39 _,aA5 39 _,?_];show R (.sh (.b (D.eqs (U.ds ((Bq n).map λn:Nat=>U.n n)) (U.ds ((Bq n).map λn:Nat=>U.n n)))));rw[aEf,Ab5 rfl];exact q
 ·rintro u l ρ ⟨dn,rst,a,el,ed,rfl⟩ ih;cases rst with
  |nil=>cases el
  |cons r rst=>
   cases el;have hr:∀x∈r,x<n:=λx hx=>By.mp (sh.subset (by rw[<-ed];simp[hx]));have dl:dn.flatten.length+r.length<=n:=by
    rw[<-fl, <-ed];simp
   refine#[_,rfl,nofun,λ_=>#[r,n,.inl rfl,∅,hr,nofun,λ_=>?_]];refine#[by rw[Ab,Ab];lia,ih _ #[dn++[r],rst,.sh (.ls (r.map λn:Nat=>U.n n)),rfl,by rw[<-ed];simp,by rw[Ny,Co,List.flatten_singleton];rfl]]
def aOl:Fv:=λus R=>∃n:Nat,us=[.n n]/\1<=n/\n<=4/\R #v[y]
def yC:aQ ["thing"] ["thing"] (aC lX):={}
def aPx(F:Fun K "is_hand_count" "is_hand_count" lX f fd)(c_is_within:#v[j])(T:Txt mg):↥3 f fd ["thing"] (spV aOl):=by
 obtain⟨_,g_MOST_HANDS⟩:=T.c_MOST_HANDS;refine vfn F yC (λae A outer s H E hr=>(aG (aU (aL c_is_within (hr.mono ⋯) rfl (aB (aA 0) (aB aH (aB (dB g_MOST_HANDS) aF))))))) ?_;rintro _ R ⟨n,rfl,n1,n4,q⟩;refine#[rfl,_,_,_,_,rfl,rfl,?_];show R (.sh (.b (isIn (.n (n:Int)) 1 4)));rw[show isIn (.n (n:Int)) 1 4=true by simp[isIn];lia];exact q
def aOm:Fv:=λus R=>∃(rs:#v[f])(n:Nat),us=[.ls (rwU rs),.n n]/\Shared rs n/\n<64/\1<=rs.length/\rs.length<=4/\R #v[y]
def aEu:aQ ["thing","many"] ["thing","many"] (aC tG):={}
def aPy(F:Fun K "are_hands" "are_hands" tG f fd)(jZ:⇑4 "are_shared_out" ["thing","many"] (spV aD7))(zB:⇑3 "is_hand_count" ["thing"] (spV aOl))(T:Txt mg):↥5 f fd ["thing","many"] (spV aOm):=by
 refine vfn F aEu (λae A outer s H E hr=>(aG (aU (lY (aL jZ (hr.mono ⋯) rfl (aB (aA 0) (aB (aA 1) aF))) (lZ (aL zB (hr.mono ⋯) rfl (aB #v[c] aF))))))) ?_;rintro _ R ⟨rs,n,rfl,sh,n64,r1,r4,q⟩;exact#[rfl,rs,n,rfl,sh,n64,∅,λ_=>#[rs.length,by rw[Ab],r1,r4,q],nofun]
def aVz:Fv:=λus R=>∃a b n:Nat,us=[.tp [.n a,.n b],.n n]/\a<n/\b<n/\R #v[y]
def aJn:aQ ["thing","many"] ["thing","many"] (aC xW):={}
def aTi(F:Fun K "is_wait" "is_wait" xW f fd)(sI:⇑3 "are_below" ["things","many"] (spV aIr))(T:Txt mg):↥4 f fd ["thing","many"] (spV aVz):=by
 refine vfn F aJn (λae A outer s H E hr=>(aG (aU (lY (iU .tp nofun T.isinstance T.tuple Os (aA 0)) (lY (iB (eO (huD hr)) dC #v[c] aH) (lZ (aL sI (hr.mono ⋯) rfl (aB (aA 0) (aB (aA 1) aF))))))))) ?_;rintro _ R ⟨a,b,n,rfl,ha,hb,q⟩;refine#[rfl,_,rfl,λ_=>#[trivial,trivial,λ_=>?_,λz=>?_],nofun]
 ·exact⟨[a,b],n,.inr rfl,by show 2<=10000;decide,λx hx=>by
   rcases Ax.mp hx with rfl|hx
   ·exact ha
   ·rw[Ap.mp hx];exact hb,q⟩
 ·have z:false=true:=z.symm;cases z
def aOv:Fv:=λus R=>∃(ps:List (Nat×Nat))(n:Nat),us=[.ls (prU ps),.n n]/\(∀p∈ps,p.1<n/\p.2<n)/\ps.length<=400/\R #v[y]
abbrev aFl:List Str:=["thing","many"]
def aEy:aQ ["thing","many"] ["thing","many"] (aC oN):={}
def aQb(F:Fun K "are_waits" "are_waits" oN f fd)(aLn:⇑4 "is_wait" ["thing","many"] (spV aVz))(T:Txt mg):↥5 f fd ["thing","many"] (spV aOv):=by
 obtain⟨_,g_MOST_WAITS⟩:=T.c_MOST_WAITS;refine vfn F aEy (λae A outer s H E hr=>(aD (cB (iM (jV (cI (cL (iU .ls nofun T.isinstance T.list Gh (aA 0)))) (fK (bK lL cU #v[c] (dB g_MOST_WAITS))))) (aG (aU jR)) bA) (aG (aU (aO iZ (qP rfl) T.all Nh (aJ (dU (own:=["wait"]) (cap:=[("many",1)]) (aC oN) aFl rfl rfl (λx h=>aV h) #v[4] rfl (vic (aX (aA 0))) ↑(aW (i:=0) (~~~["wait","many"]) rfl (Dl rfl) (Dr rfl)) (bC ⋯) ↑(aL aLn (hr.mono ⋯) rfl (aB (aA 0) (aB (aA 1) aF)))) aM)))))) ?_;rintro _ R ⟨ps,n,rfl,hp,pl,q⟩;refine#[rfl,_,rfl,nofun,λ_=>#[λz=>?_,λ_=>?_]]
 ·have z:=Ab3 z;rw[Ab]at z
  lia
 ·refine#[by rw[Ab];lia,cC (h:=λ_=> .b true) (λu hu k hk=>?_) ?_]
  ·obtain⟨p,h,rfl⟩:=Aj.mp hu;exact#[p.1,p.2,n,rfl,(hp p h).1,(hp p h).2,hk]
  ·exact#[(prU ps).map λ_=>true,by rw[Ba,Ba,Ba];rfl,Rbl q (by simp)]
def kv0(l:List Tk):List (Tke×U):=l.map λq=>(q,.n 0)
def aOu(P:An)(w:Bh)(N:Cn)(CG CJ:Addr):Fv:=λus R=>∃ns rs t ys m r ls,us=[rR N CG CJ ns rs t ys m r ls,.op #v[i].fz]/\iW ns/\(rY ns).length<=40/\0<=r/\r<=12/\R #v[y]
abbrev aFi:List Str:=["job","thing"]
def aEv:aQ ["job","thing"] ["job","thing"] (aC oJ):={}
def aP7(F:Fun K "are_slots" "are_slots" oJ f fd)(c_is_within:#v[j])(aFa:Dis P w K mg base CX0 3 (·=CJ) "all_spots" ["self"] λ_=>spV (aVp N CG CJ))(lH:⇑5 "are_spots" ["job","thing"] (spV (aD5 N CG CJ)))(T:Txt mg):↥6 f fd ["job","thing"] (spV (aOu P w N CG CJ)):=by
 obtain⟨_,g_GREATEST_SLOT⟩:=T.c_GREATEST_SLOT;refine vfn F aEv (λae A outer s H E hr=>(aD (cB (iM (jV (cI (cL (aY8 (P:=P) (w:=w) rfl rfl T.isinstance T.dict (aA 1)))) (fK (bK (lU (huD hr)) dC (aUp (P:=P) (w:=w) rfl rfl T.len (aA 1)) (aO aK bF T.len Cf (aJ (cD (aA 0) aFa (hr.mono ⋯)) aM)))))) (aG (aU jR)) bA) (aG (aU (lY (aL lH (hr.mono ⋯) rfl (aB (aA 0) (aB (aR2 (P:=P) (w:=w) rfl rfl rfl T.list (aA 1)) aF))) (lZ (aO iZ (qP rfl) T.all Nh (aJ (aY7 (P:=P) (w:=w) 1 (dU (own:=["slot"]) (cap:=[]) (aC oJ) aFi rfl rfl (λx h=>aV h) #v[4] rfl (vic (aLe (P:=P) (w:=w) rfl rfl (aA 1))) ↑(aW (i:=0) (~~~["slot"]) rfl (Dl rfl) (Dr rfl)) (bC ⋯) ↑(aL c_is_within (hr.mono ⋯) rfl (aB (aA 0) (aB aH (aB (dB g_GREATEST_SLOT) aF)))))) aM)))))))) ?_;rintro _ R ⟨ns,rs,t,ys,m,r,ls,rfl,gs,a40,r0,r12,q⟩;have sl:=zW gs r12;have kl:(kv0 (spS ns r.toNat)).length=(spS ns r.toNat).length:=by unfold kv0;rw[Ab]
 refine#[rfl,#[_,.inr (.inr rfl)],nofun,λ_=>#[_,.inr (.inr rfl),by rw[kl];lia,rfl,by decide+kernel,ns,rs,t,ys,m,r,ls,rfl,gs,a40,r0,r12,?_]];rw[aBj];have ke:(kv0 (spS ns r.toNat)).map (λp=>tkU p.1)=(spS ns r.toNat).map tkU:=by unfold kv0;rw[Ba];rfl
 have kv:(kv0 (spS ns r.toNat)).map (·.2)=(spS ns r.toNat).map λ_=>U.n 0:=by unfold kv0;rw[Ba];rfl
 have tt0:∀l:List Tk,U.tts (l.map λ_=>U.n 0):=λl=>by
  induction l with
  |nil=>trivial
  |cons _ _ ih=>exact#[trivial,ih]
 refine#[trivial,trivial,λz=>?_,λ_=>?_]
 ·have z:(!(U.eq (.n ((kv0 (spS ns r.toNat)).length:Nat)) (.n (((spS ns r.toNat).map tkU).length:Nat))))=true:=z;rw[kl,Ab,show U.eq (.n ((spS ns r.toNat).length:Nat)) (.n ((spS ns r.toNat).length:Nat))=true from Ac0 _]at z;cases z
 refine#[_,.inr (.inr rfl),by rw[kl];lia,?_];rw[ke];refine#[ns,rs,t,ys,m,r,ls,spS ns r.toNat,rfl,gs,r0,sl,λq h=>h,λ_=>?_,nofun];refine#[_,_,rfl,.inr (.inr rfl),by rw[kv];exact tt0 _,[.no,.no],.no (.no .nil),λd ob hu=>?_];refine#[d,ob,hu,_,rfl,?_];rw[kv];refine#[by rw[Ab];lia,cC (h:=λ_=> .b true) (λu hu k hk=>?_) ?_]
 ·obtain⟨_,_,rfl⟩:=Aj.mp hu;exact#[_,_,_,_,rfl,rfl,hk]
 ·refine#[?_,(spS ns r.toNat).map λ_=>true,by rw[Ba,Ba];rfl,Rbl q (by simp)];show U.tts ([]++(((spS ns r.toNat).map λ_=>U.n 0).map λ_=>U.b true));rw[Bm,Ba];have:∀l:List Tk,U.tts (l.map ((λ_=>U.b true)∘λ_=>U.n 0)):=λl=>by
   induction l with
   |nil=>trivial
   |cons _ _ ih=>exact#[trivial,ih]
  exact this _
variable {CG CJ CP:Addr}
abbrev pNm:List Str:=["job","pieces","hands","waits","slots","wanted"]
def aQj(P:An)(w:Bh)(j:U)(ps:List (List Tk))(hs:#v[f])(wt:List (Nat×Nat))(sl:List Tk):List U:=[j,.ls (pcU ps),.ls (rwU hs),.ls (prU wt),.op (pdO P w (kv0 sl)).fz,.ls []]
structure aJ7(ns:List Int)(r:Int)(ps:List (List Tk))(hs:#v[f])(wt:List (Nat×Nat)):Prop where
 gs:iW ns
 a40:(rY ns).length<=40
 mn:oG ns<=40
 r0:0<=r
 r12:r<=12
 gp:aU2 ns r ps
 n64:ps.length<64
 sh:Shared hs ps.length
 h1:1<=hs.length
 h4:hs.length<=4
 wk:∀p∈wt,p.1<ps.length/\p.2<ps.length
 wl:wt.length<=400
inductive aKa(P:An)(w:Bh)(N:Cn)(CG CJ:Addr)(us:List U)(R:(List Str->List U->Prop)):Prop
 |mk (ns rs t ys m r ls:_) (ps:List (List Tk)) (hs:#v[f]) (wt:List (Nat×Nat)) (q0_:us=[rR N CG CJ ns rs t ys m r ls,.ls (pcU ps),.ls (rwU hs),.ls (prU wt),.op #v[i].fz,.ls []]) (q1_:aJ7 ns r ps hs wt) (q2_:R pNm (aQj P w (rR N CG CJ ns rs t ys m r ls) ps hs wt (spS ns r.toNat))):aKa P w N CG CJ us R
def aIv(P:An)(w:Bh)(N:Cn)(CG CJ:Addr):List U->(List Str->List U->Prop)->Prop:=λus R=>aKa P w N CG CJ us R
def bAs(ps:List (List Tk)):U.dts 9 (pcU ps):=by
 induction ps with
 |nil=>trivial
 |cons p ps ih=>exact#[zZ 6 p,ih]
def bBc(rs:#v[f]):U.dts 9 (rwU rs):=by
 induction rs with
 |nil=>trivial
 |cons r rs ih=>exact#[aA5 8 r,ih]
def bAy(ps:List (Nat×Nat)):U.dts 9 (prU ps):=by
 induction ps with
 |nil=>trivial
 |cons p ps ih=>exact#[#[trivial,trivial,trivial],ih]
def aTq{x C dx:Addr}(h:H x=some (.ins C dx fs))(dv:DU W B H (.op (pdO P w (kv0 l)).fz) v):DU W B (upd H x o) (.op (pdO P w (kv0 l)).fz) v:=by
 obtain⟨p,S,e,nS,sS,xs,hp,r⟩:=dv;refine#[p,S,e,nS,sS,xs,(aN (λz:p=x=>by rw[z,h]at hp;cases hp)).trans hp,?_];clear hp;have key:∀{kvs:List (Tke×U)}{xs:#v[11]},PdR W B H kvs xs->(∀p∈kvs,p.2=U.n 0)->PdR W B (upd H x o) kvs xs:=by
  intro kvs xs r;induction r with
  |nil=>exactλ_=> .nil
  |cons d rv dv t ih=>
   intro hk;have e:_=U.n 0:=hk _ Ah;refine .cons (DU.data (eU h) 7 _ (zZ 5 [_]).1 d) rv ?_ (ih λp hp=>hk p (Af _ hp));subst e;exact dv
 exact key r λp hp=>by obtain⟨q,_,rfl⟩:=Aj.mp hp;rfl
theorem aKt:∀(ns:List Int)(ps:List (List Int)),(∀n∈ns,n<=9)->(∀p∈ps,∀x∈p,0<=x/\x<=8)->∀p∈ns.foldl (λps n=>ps.flatMap (ext n)) ps,∀x∈p,0<=x/\x<=8
 | [],_,_,hp=>hp
 |n::ns,ps,h,hp=>aKt ns (ps.flatMap (ext n)) (λx hx=>h x (Af _ hx)) λp hq=>by
  obtain⟨p0,h0,h1⟩:=Fq.mp hq;obtain⟨i,hi,rfl⟩:=Aj.mp h1;have hn:=h n Ah;have hi:=By.mp hi;refineλx hx=>(Bd.mp hx).elim (hp p0 h0 x) λhx=>?_;rw[Ap.mp hx]
  lia
theorem aGe:∀(ns:List Int)(ps:List (List Int))(B:Int),(∀n∈ns,1<=n)->(∀p∈ps,0<=plP p/\plP p<=B)->∀p∈ns.foldl (λps n=>ps.flatMap (ext n)) ps,plP p<=ns.foldl (λa n=>a*n) B
 | [],_,_,_,hp=>λp h=>(hp p h).2
 |n::ns,ps,B,h,hp=>aGe ns (ps.flatMap (ext n)) (B*n) (λx hx=>h x (Af _ hx)) λp hq=>by
  obtain⟨p0,h0,h1⟩:=Fq.mp hq;obtain⟨i,hi,rfl⟩:=Aj.mp h1;have hn:=h n Ah;have hi:=By.mp hi;obtain⟨a,b⟩:=hp p0 h0;have e:plP (p0++[0+(i:Int)])=plP p0*(0+(i:Int)+1):=by unfold plP;rw[Wi];rfl
  rw[e];exact#[Zh a ∅,Zi b ∅ ∅ ∅]
def aRi(gs:iW ns)(r12:r<=12):((spS ns r.toNat).map (cX (Et P w)).hash).Nodup:=by
 unfold Wk;rw[Io];have ok:∀q∈spS ns r.toNat,1<=q.1/\q.1<=12/\q.2.length=ns.length/\(∀a∈q.2,0<=a/\a<=8)/\plP q.2<=40:=λq hs=>by
  obtain⟨g1,g2,g3⟩:=aRg hs;refine#[g1,∅,g3.len,?_];obtain⟨j,_,hs⟩:=Fq.mp hs;obtain⟨p,hp,rfl⟩:=Aj.mp hs;exact#[aKt ns [[]] (λn hn=>(gs.ok n hn).2) (λp hp=>by rw[Ap.mp hp];exact nofun) p hp,Aa9 (aGe ns [[]] 1 (λn hn=>(gs.ok n hn).1) (λp hp=>by rw[Ap.mp hp];decide) p hp) gs.mn]
 refine(Aal.mp (aRh ns r.toNat)).imp λ{x y} h e=>h.2.2 (aYh (n:=ns.length) gs.l1 gs.l3 (ok x h.1) (ok y h.2.1) e)
def aGl(l:List Tk):(kv0 l).map (·.1)=l:=by
 unfold kv0;rw[Ba];exact Kz l
def Sv(W B:Addr->Prop)(x C dx:Addr)(u:U):Prop:=∀(H:Hp)(fs:List (Str×V))(o:HO)(v:V),H x=some (.ins C dx fs)->DU W B H u v->DU W B (upd H x o) u v
def Sv.dt{x C dx:Addr}(n:Nat)(h:u.dt n):Sv W B x C dx u:=λ_ _ _ _ hx d=>DU.data (eU hx) n u h d
structure aSg(W B:Addr->Prop)(H1:Hp)(x C dx:Addr)(H:Hp)(fs:List (Str×V))(us:List U)(vs:List V):Prop where
 fw:Fw W H1 H
 at_:H x=some (.ins C dx fs)
 du:DUs W B H us vs
def aSg.next{x C dx:Addr}(k:aSg W B H1 x C dx H fs us vs)(eb:EB W B H1)(n1:H1 x=none)(nw:¬W x)(w:Fw W H H')(sv:∀y∈us,Sv W B x C dx y)(d:DU W B H' u v)(su:Sv W B x C dx u):aSg W B H1 x C dx (upd H' x (.ins C dx fs')) fs' (us++[u]) (vs++[v]):=by
 have hx:=w.fr x _ nw k.at_;have key:∀{us:List U}{vs:List V},(∀y∈us,Sv W B x C dx y)->DUs W B H us vs->DUs W B (upd H' x (.ins C dx fs')) us vs:=by
  intro us;induction us with
  |nil=>exactλ_ d=>d
  |cons y us ih=>
   rintro _ sv ⟨z,r,rfl,d,t⟩;exact#[z,r,rfl,sv y Ah _ _ _ _ hx (DU.mono ((eb.to k.fw).keep w) y d),ih (λa ha=>sv a (Af _ ha)) t]
 exact#[(k.fw.trans w).upd n1 nw,aP,(key sv k.du).app (DUs.one (su _ _ _ _ hx d))]
abbrev pM:List Str:=["self","job","pieces","hands","waits","slots","wanted"]
def wG:aQ ["self","job","pieces","hands","waits","slots","wanted"] ["self","job","pieces","hands","waits","slots","wanted"] (aC eV):={}
def aMp(F:Fun K "__init__" "Paper.__init__" eV f fd)(cP:Cfl K CP pNm)(aDw:⇑6 "are_pieces" ["job","thing"] (spV (aVq N CG CJ)))(aFr:⇑5 "are_hands" ["thing","many"] (spV aOm))(aFu:⇑5 "are_waits" ["thing","many"] (spV aOv))(aFs:⇑6 "are_slots" ["job","thing"] (spV (aOu P w N CG CJ)))(aDx:⇑6 "are_wanted" ["job","thing"] (spV (aVr N CG CJ)))(T:Txt mg):↥7 f fd ["self","job","pieces","hands","waits","slots","wanted"] (spI CP (aIv P w N CG CJ)):=by
 obtain⟨_,g_MOST_PIECES⟩:=T.c_MOST_PIECES;refine F.ok wG (λvs H Q E h=>?_) (λae A outer s H vs Q E hr h=>?_)
 ·obtain⟨x,dx,vs',H1,W,B,us,R,rfl,_,_,_,_,ds,⟨ns,rs,t,ys,m,r,ls,ps,hs,wt,rfl,_⟩,_⟩:=h;rw[Ao, <-ds.length];rfl
 ·obtain⟨x,dx,vs',H1,W,B,us,R,rfl,n1,hx,s1,eb,ds,⟨ns,rs,t,ys,m,r,ls,ps,hs,wt,rfl,g,hR⟩,q⟩:=h;obtain⟨v1,_,rfl,d1,v2,_,rfl,d2,v3,_,rfl,d3,v4,_,rfl,d4,v5,_,rfl,d5,v6,r6,rfl,d6,dr⟩:=ds;obtain rfl:r6=[]:=dr;have et:∀{H'},Fw W H1 H'->EE W B H' [.no,.sh (rR N CG CJ ns rs t ys m r ls),.sh (.ls (pcU ps)),.sh (.ls (rwU hs)),.sh (.ls (prU wt)),.sh (.op #v[i].fz),.sh (.ls [])] [some (.ref x),some v1,some v2,some v3,some v4,some v5,some v6]:=λfw=>oE (fO (DU.mono (eb.keep fw) _ d1) (fO (DU.mono (eb.keep fw) _ d2) (fO (DU.mono (eb.keep fw) _ d3) (fO (DU.mono (eb.keep fw) _ d4) (fO (DU.mono (eb.keep fw) _ d5) (fO (DU.mono (eb.keep fw) _ d6) (aIo (eb.to fw))))))));have nw:¬W x:=λz=>eb.dm x (eb.wb x z) n1;refine#[_,(bB (qC (VC.can (iM (jV (cI (cL (aL aDw (hr.mono ⋯) rfl (aB (aA 1) (aB (aA 2) aF))))) (fK (bK lL cU (aO aK bF T.len Cf (aJ (aA 2) aM)) (dB g_MOST_PIECES)))))) (cV fZ) gK) (bB (qC (VC.can (cI (cL (aL aFr (hr.mono ⋯) rfl (aB (aA 3) (aB (aO aK bF T.len Cf (aJ (aA 2) aM)) aF)))))) (cV fZ) gK) (bB (qC (VC.can (cI (cL (aL aFu (hr.mono ⋯) rfl (aB (aA 4) (aB (aO aK bF T.len Cf (aJ (aA 2) aM)) aF)))))) (cV fZ) gK) (bB (qC (VC.can (cI (cL (aL aFs (hr.mono ⋯) rfl (aB (aA 1) (aB (aA 5) aF)))))) (cV fZ) gK) (bB (qC (VC.can (cI (cL (aL aDx (hr.mono ⋯) rfl (aB (aA 1) (aB (aA 6) aF)))))) (cV fZ) gK) (bB (fC (pv 0) (pv 1) rfl) (bB (fC (pv 0) (VE.can (dU (own:=["piece"]) (cap:=[]) (aC eV) pM rfl rfl (λx h=>aV h) #v[4] rfl (vic (aX (aA 2))) ↑(aW (i:=0) (~~~["piece"]) rfl (Dl rfl) (Dr rfl)) (bC ⋯) ↑(dD (eG rfl) kZ T.list Gh (aJ (aA 0) aM)))) rfl) (bB (fC (pv 0) (VE.can (dU (own:=["hand"]) (cap:=[]) (aC eV) pM rfl rfl (λx h=>aV h) #v[4] rfl (vic (aX (aA 3))) ↑(aW (i:=0) (~~~["hand"]) rfl (Dl rfl) (Dr rfl)) (bC ⋯) ↑(dD (eG rfl) kZ T.list Gh (aJ (aA 0) aM)))) rfl) (bB (fC (pv 0) (VE.can (dD (eG rfl) kZ T.list Gh (aJ (aA 4) aM))) rfl) (bB (fC (pv 0) (VE.can (aR0 (P:=P) (w:=w) rfl rfl rfl T.dict (aA 5))) rfl) (cV (fC (pv 0) (VE.can (dD (eG rfl) kZ T.list Gh (aJ (aA 6) aM))) rfl)))))))))))),?_];have f0:=eb.same s1;have pl:=g.n64;refine pK (R:=λc=>c=false) (et f0) #[ns,rs,t,ys,m,r,ls,ps,rfl,g.gs,g.r0,g.gp,nofun,λ_=>?_] λc H2 hc w2=>?_
  ·exact Ab6 (by rw[Ab];lia)
  subst hc;refine rQ ?_;have f2:=f0.trans w2;refine pK (R:=λc=>c=false) (et f2) #[hs,ps.length,by rw[Ab],g.sh,pl,g.h1,g.h4,rfl] λc H3 hc w3=>?_;subst hc;refine rQ ?_;have f3:=f2.trans w3;refine pK (R:=λc=>c=false) (et f3) #[wt,ps.length,by rw[Ab],g.wk,g.wl,rfl] λc H4 hc w4=>?_;subst hc;refine rQ ?_;have f4:=f3.trans w4;refine pK (R:=λc=>c=false) (et f4) #[ns,rs,t,ys,m,r,ls,rfl,g.gs,g.a40,g.r0,g.r12,rfl] λc H5 hc w5=>?_;subst hc;refine rQ ?_;have f5:=f4.trans w5;refine pK (R:=λc=>c=false) (et f5) #[ns,rs,t,ys,m,r,ls,[],rfl,g.gs,g.r0,⋯,nofun,Ht,rfl] λc H6 hc w6=>?_;subst hc;refine rQ ?_;have f6:=f5.trans w6;have hx6:H6 x=some (.ins CP dx []):=w6.fr _ _ nw (w5.fr _ _ nw (w4.fr _ _ nw (w3.fr _ _ nw (w2.fr _ _ nw hx))));have fl:∀{k:Nat},k<=6->k<1000:=λh=>by lia
  refine#[_,rfl,_,rfl,x,CP,dx,_,rfl,hx6,cP.cl,cP.na _ (by simp),fl (by show(0:Nat)<=6;decide),?_];have k7:aSg W B H1 x CP dx (upd H6 x (.ins CP dx [("job",v1)])) [("job",v1)] [] []:=#[f6.upd n1 nw,aP,rfl];have s2:Sv W B x CP dx (.ls (pcU ps)):=.dt 10 (bAs ps);have s3:Sv W B x CP dx (.ls (rwU hs)):=.dt 10 (bBc hs);have s4:Sv W B x CP dx (.ls (prU wt)):=.dt 10 (bAy wt);have s5:Sv W B x CP dx (.op #v[i].fz):=λ_ _ _ _ h d=>aTq h d;have s6:Sv W B x CP dx (.ls []):=.dt 1 trivial;have o1:∀y∈[U.ls (pcU ps)],Sv W B x CP dx y:=λy hy=>by rw[Ap.mp hy];exact s2
  have o2:∀y∈[U.ls (pcU ps),.ls (rwU hs)],Sv W B x CP dx y:=λy hy=>(Ax.mp hy).elim (λe=>by rw[e];exact s2) λhy=>by rw[Ap.mp hy];exact s3
  have o3:∀y∈[U.ls (pcU ps),.ls (rwU hs),.ls (prU wt)],Sv W B x CP dx y:=λy hy=>(Bd.mp (show y∈[U.ls (pcU ps),.ls (rwU hs)]++[.ls (prU wt)]from hy)).elim (o2 y) λhy=>by rw[Ap.mp hy];exact s4
  have o4:∀y∈[U.ls (pcU ps),.ls (rwU hs),.ls (prU wt),.op #v[i].fz],Sv W B x CP dx y:=λy hy=>(Bd.mp (show y∈[U.ls (pcU ps),.ls (rwU hs),.ls (prU wt)]++[.op #v[i].fz]from hy)).elim (o3 y) λhy=>by rw[Ap.mp hy];exact s5
  refine tM (R:=λs=>s=.ow (pcU ps)) (et k7.fw) #[by rw[Ab];lia,cC (h:=id) (λu hu k hk=>?_) (by rw[Bm,Kz])] λs v8 H8 hs8 w8 r8=>?_
  ·obtain⟨l,_,rfl⟩:=Aj.mp hu;exact hk
  subst hs8;obtain⟨p8,x8,rfl,n8,h8,d8⟩:=r8;refine#[_,rfl,x,CP,dx,_,rfl,w8.fr _ _ nw k7.at_,cP.cl,cP.na _ (by simp),fl (by show(1:Nat)<=6;decide),?_];have k8:=k7.next (u:=.ls (pcU ps)) (v:=.ref p8) (fs':=[("job",v1),("pieces",.ref p8)]) eb n1 nw w8 (λ_ h=>nomatch h) (#[p8,x8,rfl,(eb.to k7.fw).nw n8,h8,d8.less]:DU W B H8 (.ls (pcU ps)) (.ref p8)) s2;refine tM (R:=λs=>s=.ow (rwU hs)) (et k8.fw) #[by rw[Ab];have:=g.h4;lia,cC (h:=id) (λu hu k hk=>?_) (by rw[Bm,Kz])] λs v9 H9 hs9 w9 r9=>?_
  ·obtain⟨l,_,rfl⟩:=Aj.mp hu;exact hk
  subst hs9;obtain⟨p9,x9,rfl,n9,h9,d9⟩:=r9;refine#[_,rfl,x,CP,dx,_,rfl,w9.fr _ _ nw k8.at_,cP.cl,cP.na _ (by simp),fl (by show(2:Nat)<=6;decide),?_];have k9:=k8.next (u:=.ls (rwU hs)) (v:=.ref p9) (fs':=[("job",v1),("pieces",.ref p8),("hands",.ref p9)]) eb n1 nw w9 o1 (#[p9,x9,rfl,(eb.to k8.fw).nw n9,h9,d9.less]:DU W B H9 (.ls (rwU hs)) (.ref p9)) s3;refine tM (R:=λs=>s=.ow (prU wt)) (et k9.fw) rfl λs v10 H10 hs10 w10 r10=>?_;subst hs10;obtain⟨p10,x10,rfl,n10,h10,d10⟩:=r10;refine#[_,rfl,x,CP,dx,_,rfl,w10.fr _ _ nw k9.at_,cP.cl,cP.na _ (by simp),fl (by show(3:Nat)<=6;decide),?_];have k10:=k9.next (u:=.ls (prU wt)) (v:=.ref p10) (fs':=[("job",v1),("pieces",.ref p8),("hands",.ref p9),("waits",.ref p10)]) eb n1 nw w10 o2 (#[p10,x10,rfl,(eb.to k9.fw).nw n10,h10,d10.less]:DU W B H10 (.ls (prU wt)) (.ref p10)) s4;have sl:=zW g.gs g.r12;refine tM (R:=λs=>s=.oo #v[i]) (et k10.fw) #[_,.inr (.inr rfl),?_,?_,rfl] λs v11 H11 hs11 w11 r11=>?_
  ·rw[aGl];exact aRi g.gs g.r12
  ·unfold kv0;rw[Ab]
   lia
  subst hs11;obtain⟨p11,S11,rfl,n11,h11⟩:=r11;refine#[_,rfl,x,CP,dx,_,rfl,w11.fr _ _ nw k10.at_,cP.cl,cP.na _ (by simp),fl (by show(4:Nat)<=6;decide),?_];have k11:=k10.next (u:=.op #v[i].fz) (v:=.ref p11) (fs':=[("job",v1),("pieces",.ref p8),("hands",.ref p9),("waits",.ref p10),("slots",.ref p11)]) eb n1 nw w11 o3 (#[p11,S11,rfl,λb hb=>(eb.to k10.fw).nw (n11 b hb),(pdO P w _).less h11]:DU W B H11 (.op #v[i].fz) (.ref p11)) s5;refine tM (R:=λs=>s=.ow []) (et k11.fw) rfl λs v12 H12 hs12 w12 r12=>?_;subst hs12;obtain⟨p12,x12,rfl,n12,h12,d12⟩:=r12;refine#[_,rfl,x,CP,dx,_,rfl,w12.fr _ _ nw k11.at_,cP.cl,cP.na _ (by simp),fl (by show(5:Nat)<=6;decide),?_];have k12:=k11.next (u:=.ls []) (v:=.ref p12) (fs':=[("job",v1),("pieces",.ref p8),("hands",.ref p9),("waits",.ref p10),("slots",.ref p11),("wanted",.ref p12)]) eb n1 nw w12 o4 (#[p12,x12,rfl,(eb.to k11.fw).nw n12,h12,d12.less]:DU W B H12 (.ls []) (.ref p12)) s6;exact q _ _ [v1,.ref p8,.ref p9,.ref p10,.ref p11,.ref p12] _ hR k12.fw aP rfl #[_,_,rfl,DU.mono (eb.keep k12.fw) _ d1,k12.du]
end Q
namespace G4
variable {ls:List Nat}{E:Nat->Option Nat}{L:Nat->Nat}{ws:#v[f]}{A:List Nat}{n:Nat}{hs:#v[f]}{p:Nat}{t:Nat}{i:Nat}
abbrev Pr:=Nat×Nat
def Below(n:Nat)(ps:List Pr):Prop:=∀p∈ps,p.1<n/\p.2<n
theorem kI:∀(n:Nat)(l:List Nat),l.Nodup->(∀v∈l,v<n)->l.length<=n
 |0,l,_,h=>by
  cases l with
  |nil=>simp
  |cons a l=>exact Ab2 (h a Ah) (Eu a)
 |n+1,l,hn,h=>by
  by_cases hm:n∈l
  ·have ih:=kI n (l.erase n) (hn.erase n) λv hv=>by
    have h1:=h v (List.mem_of_mem_erase hv);have h2:v≠n:=λe=>by
     subst e;exact(List.Nodup.not_mem_erase hn) hv
    lia
   rw[Si hm]at ih;have:=Tt hm
   lia
  ·have ih:=kI n l hn λv hv=>by
    have h1:=h v hv;have h2:v≠n:=λe=>hm (e▸hv)
    lia
   lia
def fV(ps:List Pr)(D:List Nat)(v:Nat):Nat:=ps.countP λp=>decide (p.1=v/\p.2∉D)
def gY(ps:List Pr)(m:Nat):List Nat:=(ps.filter λp=>decide (p.2=m)).map (·.1)
def pR:fV ps D v=0↔ ∀m,(v,m)∈ps->m∈D:=by
 unfold fV;rw[List.countP_eq_zero];constructor
 ·intro h m hm;have:=h (v,m) hm;simp at this;exact this
 ·intro h p hp hd;have hd':=Ab3 hd;exact hd'.2 (h p.2 (by rw[<-hd'.1];exact hp))
theorem uU(hm:m∉D)(v:Nat):∀ps:List Pr,fV ps D v=fV ps (D++[m]) v+(gY ps m).count v
 | []=>rfl
 |p::ps=>by
  have ih:=uU hm v ps;unfold fV gY at ih⊢;rw[Mn,Mn,List.filter_cons];by_cases h1:p.1=v
  ·by_cases h2:p.2=m
   ·have e1:decide (p.1=v/\p.2∉D)=true:=Ab5 #[h1,h2▸hm];have e2:decide (p.1=v/\p.2∉D++[m])=false:=Ab6 (λz=>z.2 (by simp[h2]));rw[e1,e2,Ab1 (Ab5 h2),Bj,Xt,ih];simp[h1]
    lia
   ·have e2:decide (p.1=v/\p.2∉D++[m])=decide (p.1=v/\p.2∉D):=by simp[h2]
    have e3:¬decide (p.2=m)=true:=by simpa using h2
    rw[e2,Ab0 e3,ih]
    lia
  ·have e1:decide (p.1=v/\p.2∉D)=false:=Ab6 (λz=>h1 z.1);have e2:decide (p.1=v/\p.2∉D++[m])=false:=Ab6 (λz=>h1 z.1);rw[e1,e2];by_cases h2:p.2=m
   ·rw[Ab1 (Ab5 h2),Bj,Xt,ih];simp[h1]
   ·have e3:¬decide (p.2=m)=true:=by simpa using h2
    rw[Ab0 e3,ih];simp
def aBl{l:List Nat}{j r:Nat}(h:l[j]? =some r)(v:Nat):(l.take (j+1)).count v=(l.take j).count v+if v=r then 1 else 0:=by
 rw[Nx,h,List.count_append];show _+List.count v [r]=_;rw[List.count_singleton];congr 1;by_cases e:v=r
 ·subst e;simp
 ·have e':¬r=v:=λz=>e z.symm;simp[e,e']
def aCa(l:List Nat)(j v:Nat):(l.take j).count v<=l.count v:=(Pg j l).count_le v
structure Dec(n:Nat)(L0 L:Nat->Nat)(F:List Nat):Prop where
 le:∀v,L v<=L0 v
 nd:F.Nodup
 mem:∀v,v∈F↔v<n/\L v=0/\0<L0 v
def Dec.start:Dec n L0 L0 []:=#[λ_=>Ak _,Ht,λv=>#[λh=>(by cases h),λh=>∅]]
def less(L:Nat->Nat)(r:Nat):Nat->Nat:=λv=>if v=r then L r-1 else L v
def Dec.step0{L0 L:Nat->Nat}(d:Dec n L0 L F)(hr:r<n)(h1:L r=1):Dec n L0 (less L r) (F++[r]):=by
 refine#[λv=>?_,?_,λv=>?_]
 ·unfold less;split
  ·rename_i e;subst e;have:=d.le v;lia
  ·exact d.le v
 ·rw[Ei];refine#[d.nd,by simp,λa ha b hb=>?_];rw[Ap]at hb;subst hb;rintro rfl;have:=((d.mem a).mp ha).2.1
  lia
 ·rw[Bd,Ap,d.mem];unfold less;by_cases e:v=r
  ·subst e;have:=d.le v;simp[h1]
   lia
  ·simp[e]
def Dec.step1{L0 L:Nat->Nat}(d:Dec n L0 L F)(h1:2<=L r):Dec n L0 (less L r) F:=by
 refine#[λv=>?_,d.nd,λv=>?_]
 ·unfold less;split
  ·rename_i e;subst e;have:=d.le v;lia
  ·exact d.le v
 ·rw[d.mem];unfold less;by_cases e:v=r
  ·subst e;simp
   lia
  ·simp[e]
def aNe{ps:List Pr}{D:List Nat}{m j r:Nat}(hm:m∉D)(hL:∀v,L v+((gY ps m).take j).count v=fV ps D v)(hj:(gY ps m)[j]? =some r):
  0<L r/\∀v,less L r v+((gY ps m).take (j+1)).count v=fV ps D v:=by
 have h0:0<L r:=by
  have h1:=hL r;have h2:=uU hm r ps;have h3:=aBl hj r;have h4:=aCa (gY ps m) (j+1) r;rw[Ab1 rfl]at h3
  lia
 refine#[h0,λv=>?_];have h1:=hL v;have h3:=aBl hj v;unfold less;by_cases e:v=r
 ·subst e;rw[Ab1 rfl]at h3⊢
  lia
 ·rw[Ab0 e]at h3⊢
  lia
structure aDo(ps:List Pr)(n:Nat)(ws:#v[f]):Prop where
 below:∀v∈ws.flatten,v<n
 nodup:ws.flatten.Nodup
 full:∀w∈ws,w≠[]
 rise:∀w∈ws,w.Pairwise (·<·)
 lean:∀(i:Nat) w,ws[i]? =some w->∀v∈w,∀m,(v,m)∈ps->m∈(ws.take i).flatten
 last:∀(i:Nat) w w',ws[i]? =some w->ws[i+1]? =some w'->∀v∈w',∃m∈w,(v,m)∈ps
def Stuck(ps:List Pr)(n:Nat)(ws:#v[f]):Prop:=∀v,v<n->v∉ws.flatten->∃m,(v,m)∈ps/\m∉ws.flatten
structure yX(ps:List Pr)(n:Nat)(ws:#v[f])(w:List Nat):Prop where
 ok:aDo ps n ws
 wave:∀v,v∈w↔v<n/\v∉ws.flatten/\fV ps ws.flatten v=0
 wrise:w.Pairwise (·<·)
 wlast:∀(i:Nat) u,ws[i]? =some u->i+1=ws.length->∀v∈w,∃m∈u,(v,m)∈ps
def yX.start(h:w=(Bq n).filter λv=>decide (fV ps [] v=0)):yX ps n [] w:=by
 subst h;refine#[#[by simp,by simp,by simp,by simp,by simp,by simp],λv=>?_,?_,by simp]
 ·simp[Gq]
 ·exact Aak _ Ts
def yX.done(k:yX ps n ws []):Stuck ps n ws:=by
 intro v hv hn;by_cases h:fV ps ws.flatten v=0
 ·have:=(k.wave v).mpr #[hv,hn,h];cases this
 ·refine Dn λhc=>h (pR.mpr λm hm=>?_);exact Dn λhmd=>hc #[m,hm,hmd]
def yX.nd(k:yX ps n ws w):(ws++[w]).flatten.Nodup/\(∀v∈(ws++[w]).flatten,v<n)/\w.Nodup:=by
 have hw:w.Nodup:=k.wrise.imp λh=>Bc h;have e:(ws++[w]).flatten=ws.flatten++w:=by simp
 rw[e];refine#[Ei.mpr #[k.ok.nodup,hw,λa ha b hb=>?_],λv hv=>?_,hw]
 ·rintro rfl;exact((k.wave a).mp hb).2.1 ha
 ·rcases Bd.mp hv with h|h
  ·exact k.ok.below v h
  ·exact((k.wave v).mp h).1
def yX.step(hb:Below n ps)(k:yX ps n ws w)(hw:w≠[])(d:Dec n (fV ps ws.flatten) (fV ps (ws++[w]).flatten) F)
  (hp:ms.Perm F) (ho:ms.Pairwise (·<=·)):yX ps n (ws++[w]) ms:=by
 have e:(ws++[w]).flatten=ws.flatten++w:=by simp
 have hnd:ms.Nodup:=hp.nodup_iff.mpr d.nd;have hz:∀v∈ws.flatten++w,fV ps ws.flatten v=0:=λv hv=>by
  rcases Bd.mp hv with h|h
  ·rw[pR];intro m hm;obtain⟨u,hu,hvu⟩:=Ds.mp h;obtain⟨i,hi,rfl⟩:=Hn hu;have:=k.ok.lean i ws[i] (by simp[hi]) v hvu m hm;obtain⟨t,ht,hmt⟩:=Ds.mp this;exact Ds.mpr #[t,Iz ht,hmt]
  ·exact((k.wave v).mp h).2.2
 refine#[#[k.nd.2.1,k.nd.1,λu hu=>?_,λu hu=>?_,λi u hu v hv m hm=>?_,λi u u' hu hu' v hv=>?_],λv=>?_,?_,λi u hu hi v hv=>?_]
 ·rcases Bd.mp hu with h|h
  ·exact k.ok.full u h
  ·rw[Ap]at h;subst h;exact hw
 ·rcases Bd.mp hu with h|h
  ·exact k.ok.rise u h
  ·rw[Ap]at h;subst h;exact k.wrise
 ·by_cases hi:i<ws.length
  ·rw[Dz hi]at hu;have:=k.ok.lean i u hu v hv m hm;rw[Pt ∅];exact this
  ·have hil:i=ws.length:=by
    have:=(Ay.mp hu).1;simp at this
    lia
   subst hil;rw[Ek (Ak _)]at hu;simp at hu;subst hu;rw[Pt (Ak _),Ml];exact pR.mp ((k.wave v).mp hv).2.2 m hm
 ·by_cases hi:i+1<ws.length
  ·rw[Dz hi]at hu';rw[Dz ∅]at hu;exact k.ok.last i u u' hu hu' v hv
  ·have hil:i+1=ws.length:=by
    have:=(Ay.mp hu').1;simp at this
    lia
   rw[hil,Ek (Ak _)]at hu';simp at hu';subst hu';rw[Dz ∅]at hu;exact k.wlast i u hu hil v hv
 ·rw[hp.mem_iff,d.mem];constructor
  ·rintro⟨h1,h2,h3⟩;refine#[h1,λhv=>?_,h2];rw[e]at hv;have:=hz v hv
   lia
  ·rintro⟨h1,h2,h3⟩;refine#[h1,h3,Nat.pos_of_ne_zero λh0=>h2 ?_];rw[e]at h2⊢;exact Be _ ((k.wave v).mpr #[h1,λz=>h2 (Bo _ z),h0])
 ·have:=List.pairwise_and_iff.mpr #[ho,hnd];exact this.imp λh=>Nat.lt_of_le_of_ne h.1 h.2
 ·have hil:i=ws.length:=by simp at hi;lia
  subst hil;rw[Ek (Ak _)]at hu;simp at hu;subst hu;have h1:=(d.mem v).mp (hp.mem_iff.mp hv);have h2:∀m,(v,m)∈ps->m∈ws.flatten++w:=by rw[<-e];exact pR.mp h1.2.1
  refine Dn λhc=>?_;have:fV ps ws.flatten v=0:=pR.mpr λm hm=>by
   rcases Bd.mp (h2 m hm)with z|z
   ·exact z
   ·exact Ab2 #[m,z,hm] hc
  lia
theorem aC0:∀(l m:List Nat),l.Nodup->(∀v∈l,v∈m)->l.length<=m.length
 | [],m,_,_=>Bp _
 |a::l,m,hn,h=>by
  obtain⟨h1,h2⟩:=Dx.mp hn;have ha:=h a Ah;have ih:=aC0 l (m.erase a) h2 λv hv=>by
   have hv':=h v (Af _ hv);have hne:v≠a:=λe=>h1 (e▸hv);exact(List.mem_erase_of_ne hne).mpr hv'
  rw[Si ha]at ih;have:=Tt ha;rw[Ao]
  lia
def cover{W:List Nat}(hn:W.Nodup)(hb:∀v∈W,v<n)(hl:n<=W.length):∀v,v<n->v∈W:=by
 intro v hv;refine Dn λhc=>?_;have:=kI n (v::W) (Dx.mpr #[hc,hn]) λu hu=>by
  rcases Ax.mp hu with e|e
  ·rw[e];exact hv
  ·exact hb u e
 rw[Ao]at this
 lia
section
abbrev Pq:=Nat×Nat
def Rdy(G:List Pq)(E:Nat->Option Nat)(t p:Nat):Prop:=∀q,(p,q)∈G->∃e,E q=some e/\e<=t
def IsB(G:List Pq)(E:Nat->Option Nat)(p b:Nat):Prop:=Rdy G E b p/\(b=0∨∃q,(p,q)∈G/\E q=some b)
structure aLh(n:Nat)(G:List Pq)(L:Nat->Nat)(E:Nat->Option Nat)(t:Nat):Prop where
 dom:∀p e,E p=some e->p<n
 sys:∀p e,E p=some e->∃b,e=b+L p/\IsB G E p b
 late:∀p,p<n->E p=none->0<t->∃q,(p,q)∈G/\∀e,E q=some e->t<=e
 zero:t=0->∀p,E p=none
def begun(L:Nat->Nat)(E:Nat->Option Nat)(t:Nat)(A:List Nat):Nat->Option Nat:=λp=>match E p with|some e=>some e|none=>if p∈A then some (t+L p)else none
def gD{p e:Nat}(h:E p=some e):begun L E t A p=some e:=by simp[begun,h]
def jY(h:E p=none)(m:p∈A):begun L E t A p=some (t+L p):=by simp[begun,h,m]
def pO(h:E p=none)(m:p∉A):begun L E t A p=none:=by simp[begun,h,m]
def lG{p e:Nat}(h:begun L E t A p=some e):E p=some e∨(E p=none/\p∈A/\e=t+L p):=by
 cases g:E p with
 |some x=>rw[gD g]at h;exact .inl h
 |none=>
  by_cases m:p∈A
  ·rw[jY g m]at h;exact .inr #[rfl,m,by cases h;rfl]
  ·rw[pO g m]at h;cases h
def aFq(hL:∀p,0<L p)(h:begun L E t A q=some e)(l:e<=t):E q=some e:=by
 rcases lG h with h|⟨_,_,rfl⟩
 ·exact h
 ·have:=hL q;lia
def aM8(hL:∀p,0<L p):Rdy G (begun L E t A) t p↔Rdy G E t p:=
 #[λh q m=>let⟨e,h1,h2⟩:=h q m;#[e,aFq hL h1 h2,h2],λh q m=>let⟨e,h1,h2⟩:=h q m;#[e,gD h1,h2]]
def aIk:aLh n G L (λ_=>none) 0:=#[(λ_ _ h=>nomatch h),(λ_ _ h=>nomatch h),(λ_ _ _ h=>Ab2 h (Ej _)),(λ_ _=>rfl)]
section
variable {n:Nat}{G:List Pq}{L:Nat->Nat}{E:Nat->Option Nat}{t:Nat}{A:List Nat}
def aLl(hL:∀p,0<L p)(C:aLh n G L E t)(hp:p<n)(h:E p=none)(r:Rdy G E t p):IsB G E p t:=by
 refine#[r,?_];by_cases ht:0<t
 ·obtain⟨q,m,hq⟩:=C.late p hp h ht;obtain⟨e,h1,h2⟩:=r q m;have:=hq e h1;exact .inr #[q,m,by rw[h1];congr 1;lia]
 ·exact .inl ∅
def aC8(hL:∀p,0<L p)(C:aLh n G L E t)(hA:∀p∈A,p<n/\Rdy G E t p):∀p e,begun L E t A p=some e->∃b,e=b+L p/\IsB G (begun L E t A) p b:=by
 intro p e h;have up:∀{b},IsB G E p b->IsB G (begun L E t A) p b:=λ⟨r,x⟩=>#[λq m=>let⟨e,h1,h2⟩:=r q m;#[e,gD h1,h2],x.imp id λ⟨q,m,z⟩=>#[q,m,gD z]];rcases lG h with h'|⟨h',m,e0⟩
 ·obtain⟨b,e1,e2⟩:=C.sys p e h';exact#[b,e1,up e2]
 ·exact#[t,e0,up (aLl hL C (hA p m).1 h' (hA p m).2)]
def aLx(hL:∀p,0<L p)(C:aLh n G L E t)(hA:∀p∈A,p<n/\Rdy G E t p)(all:∀p,p<n->E p=none->Rdy G E t p->p∈A)(l:t<t2)(nx:∀p e,begun L E t A p=some e->t<e->t2<=e):aLh n G L (begun L E t A) t2:=by
 refine#[λp e h=>?_,aC8 hL C hA,λp hp h _=>?_,λz=>by lia]
 ·rcases lG h with h|⟨_,m,_⟩
  ·exact C.dom p e h
  ·exact(hA p m).1
 ·have h0:E p=none:=by
   cases g:E p with
   |none=>rfl
   |some e=>rw[gD g]at h;cases h
  have nm:p∉A:=λm=>by rw[jY h0 m]at h;cases h
  have nr:¬Rdy G E t p:=λr=>nm (all p hp h0 r);apply Dn;intro no;refine nr λq m=>?_;apply Dn;intro nq;refine no #[q,m,λe he=>?_];by_cases le:e<=t
  ·exact Ab2 #[e,aFq hL he le,le] nq
  ·exact nx q e he ∅
end
def aF2{G:List Pq}(hL:∀p,0<L p)(sE:∀p e,E p=some e->∃b,e=b+L p/\IsB G E p b)(S:Nat->Prop)(hS:∀p,S p->∃q,(p,q)∈G/\S q):∀e p,E p=some e->¬S p:=by
 intro e;induction e using Nj with
 |ind e ih=>
  intro p h sp;obtain⟨b,e1,r1,_⟩:=sE p e h;obtain⟨q,m,sq⟩:=hS p sp;obtain⟨x,h1,h2⟩:=r1 q m;exact ih x (by have:=hL p;lia) q h1 sq
end
def Tf(ts:List Pr):Nat->Option Nat:=λq=>some ((ts.getD q (0,0)).2)
def Lf(ls:List Nat):Nat->Nat:=λp=>ls.getD p 0
structure Tm(ps:List Pr)(ls:List Nat)(done:List Nat)(ts:List Pr):Prop where
 len:ts.length=ls.length
 low:∀p∈done,p<ls.length
 pre:∀p∈done,∀q,(p,q)∈ps->q∈done
 sys:∀p∈done,(ts.getD p (0,0)).2=(ts.getD p (0,0)).1+Lf ls p/\IsB ps (Tf ts) p (ts.getD p (0,0)).1
def Tm.start(h:ts.length=ls.length):Tm ps ls [] ts:=#[h,(λ_ h=>nomatch h),(λ_ h=>nomatch h),(λ_ h=>nomatch h)]
def aGg{α:Type}{l:List α}{i j:Nat}{a d:α}(h:i≠j):(l.set i a).getD j d=l.getD j d:=by simp[Ma,El h]
def aGf{α:Type}{l:List α}{a d:α}(h:i<l.length):(l.set i a).getD i d=a:=by simp[Ma,h]
def Tm.step{ps:List Pr}{done:List Nat}{ts:List Pr}{p b:Nat}(t:Tm ps ls done ts)(hp:p<ls.length)(nd:p∉done)(pre:∀q,(p,q)∈ps->q∈done)(hb:IsB ps (Tf ts) p b):Tm ps ls (done++[p]) (ts.set p (b,b+Lf ls p)):=by
 have same:∀q,q∈done->(ts.set p (b,b+Lf ls p)).getD q (0,0)=ts.getD q (0,0):=λq hq=>aGg λz=>nd (z▸hq);have up:∀{r c},(∀q,(r,q)∈ps->q∈done)->IsB ps (Tf ts) r c->IsB ps (Tf (ts.set p (b,b+Lf ls p))) r c:=λ{r c} pr ⟨h1,h2⟩=>by
  refine#[λq m=>?_,h2.imp id λ⟨q,m,z⟩=>#[q,m,?_]]
  ·obtain⟨e,e1,e2⟩:=h1 q m;refine#[e,?_,e2];unfold Tf at e1⊢;rw[same q (pr q m)];exact e1
  ·unfold Tf at z⊢;rw[same q (pr q m)];exact z
 refine#[by rw[Cg];exact t.len,λr hr=>?_,λr hr q m=>?_,λr hr=>?_]
 ·rcases Bd.mp hr with z|z
  ·exact t.low r z
  ·rw[Ap.mp z];exact hp
 ·rcases Bd.mp hr with z|z
  ·exact Bo _ (t.pre r z q m)
  ·rw[Ap.mp z]at m;exact Bo _ (pre q m)
 ·rcases Bd.mp hr with z|z
  ·obtain⟨e1,e2⟩:=t.sys r z;rw[same r z];exact#[e1,up (t.pre r z) e2]
  ·rw[Ap.mp z,aGf (by rw[t.len];exact hp)];exact#[rfl,up pre hb]
structure Sys(ps:List Pr)(ls:List Nat)(ts:List Pr):Prop where
 len:ts.length=ls.length
 sys:∀p,p<ls.length->(ts.getD p (0,0)).2=(ts.getD p (0,0)).1+Lf ls p/\IsB ps (Tf ts) p (ts.getD p (0,0)).1
def aPm{i j v:Nat}{wv:List Nat}(h:ws.flatten.Nodup)(hw:ws[i]? =some wv)(hj:wv[j]? =some v):v∉(ws.take i).flatten++wv.take j:=by
 have hi:i<ws.length:=(Ay.mp hw).1;have hjl:j<wv.length:=(Ay.mp hj).1;have e1:ws=ws.take i++wv::ws.drop (i+1):=by
  have:wv=ws[i]:=by rw[Ag hi]at hw;exact(Bs hw).symm
  rw[this,Tu,Gb]
 have e2:wv=wv.take j++v::wv.drop (j+1):=by
  have:v=wv[j]:=by rw[Ag hjl]at hj;exact(Bs hj).symm
  rw[this,Tu,Gb]
 rw[e1,Ny,Dt]at h;obtain⟨_,hW,dis⟩:=Ei.mp h;intro m;rcases Bd.mp m with m|m
 ·exact dis v m v (Bo _ (Ai hj)) rfl
 ·have hn:=(Ei.mp hW).1;rw[e2]at hn;exact(Ei.mp hn).2.2 v m v Ah rfl
def bU(rs:#v[f]):List Pr:=rs.flatMap λr=>(r.drop 1).zip r
def aFg(m:Nat)(ts:List Pr):Prop:=(m=0∨∃t∈ts,t.2=m)/\∀t∈ts,t.2<=m
theorem tY:∀rs:List (List Nat),(bU rs).length<=rs.flatten.length
 | []=>Ak _
 |r::rs=>by
  unfold bU;rw[Ip,Am,Dt,Am];have:=tY rs;unfold bU at this;have:((r.drop 1).zip r).length<=r.length:=by rw[Xr,Fs];lia
  lia
open L2 G4
def gM{p q:Nat}:(p,q)∈bU rs↔ ∃(i j:Nat)(row:List Nat),rs[i]? =some row/\row[j+1]? =some p/\row[j]? =some q:=by
 unfold bU;rw[Fq];constructor
 ·rintro⟨row,hr,hm⟩;obtain⟨i,hi⟩:=Cu.mp hr;obtain⟨j,hj⟩:=Cu.mp hm;obtain⟨h1,h2⟩:=Ru.mp hj;rw[Vy]at h1;exact#[i,j,row,hi,by rw[Uq];exact h1,h2]
 ·rintro⟨i,j,row,hi,h1,h2⟩;refine#[row,Ai hi,Cu.mpr #[j,Ru.mpr #[?_,h2]]];rw[Vy,Uq];exact h1
theorem kJ:∀{rs:#v[f]},rs.flatten.Nodup->∀{i i' j j' p:Nat}{row row':List Nat},rs[i]? =some row->rs[i']? =some row'->row[j]? =some p->row'[j']? =some p->i=i'/\j=j'
 | [],_,i,_,_,_,_,_,_,h,_,_,_=>by simp at h
 |r::rs,hn,i,i',j,j',p,row,row',h1,h2,h3,h4=>by
  rw[Dt]at hn;obtain⟨n1,n2,dis⟩:=Ei.mp hn;cases i with
  |zero=>
   have e:r=row:=by simpa using h1
   subst e;cases i' with
   |zero=>
    have e:r=row':=by simpa using h2
    subst e;obtain⟨a1,b1⟩:=Ay.mp h3;obtain⟨a2,b2⟩:=Ay.mp h4;exact#[rfl,(Kk n1).mp (b1.trans b2.symm)]
   |succ i'=>
    exact Ab2 rfl (dis p (Ai h3) p (Ds.mpr #[row',Ai (show rs[i']? =some row' by simpa using h2),Ai h4]))
  |succ i=>
   cases i' with
   |zero=>
    have e:r=row':=by simpa using h2
    subst e;exact Ab2 rfl (dis p (Ai h4) p (Ds.mpr #[row,Ai (show rs[i]? =some row by simpa using h1),Ai h3]))
   |succ i'=>
    obtain⟨e1,e2⟩:=kJ n2 (i:=i) (i':=i') (by simpa using h1) (by simpa using h2) h3 h4;exact#[by rw[e1],e2]
structure Cur(rs:#v[f])(ats:List Nat)(E:Nat->Option Nat):Prop where
 len:ats.length=rs.length
 le:∀(h:Nat) row k,rs[h]? =some row->ats[h]? =some k->k<=row.length
 beg:∀(h:Nat) row k,rs[h]? =some row->ats[h]? =some k->∀(j:Nat) p,row[j]? =some p->(E p≠none↔j<k)
structure HSt(n:Nat)(G:List Pr)(L:Nat->Nat)(E:Nat->Option Nat)(t:Nat)(rs:#v[f])(h:Nat)(A ats:List Nat):Prop where
 cur:Cur rs ats (begun L E t A)
 inA:∀p∈A,p<n/\E p=none/\Rdy G E t p/\∃(i:Nat)(row:List Nat),i<h/\rs[i]? =some row/\p∈row
 all:∀(i:Nat)(row:List Nat)(p:Nat),i<h->rs[i]? =some row->p∈row->E p=none->Rdy G E t p->p∈A
variable {n:Nat}{ps:List Pr}{L:Nat->Nat}{E:Nat->Option Nat}{t h k pc:Nat}{rs:#v[f]}{A ats row:List Nat}
def aCi:begun L E t []=E:=by
 funext p;unfold begun;cases E p<;>simp
def HSt.start(c:Cur rs ats E):HSt n G L E t rs 0 [] ats:=#[by rw[aCi];exact c,(λ_ h=>nomatch h),λi _ _ h=>Ab2 h (Eu i)]
def HSt.next(hs:HSt n G L E t rs h A ats)(nd:rs.flatten.Nodup)(h1:rs[h]? =some row)(h2:ats[h]? =some k){j p:Nat}(hj:k<=j)(h3:row[j]? =some p):begun L E t A p=none/\E p=none/\p∉A:=by
 have b:begun L E t A p=none:=by
  cases g:begun L E t A p with
  |none=>rfl
  |some e=>exact Ab2 ((hs.cur.beg h row k h1 h2 j p h3).mp (by rw[g];exactλz=>nomatch z)) ∅
 have e0:E p=none:=by
  cases g:E p with
  |none=>rfl
  |some e=>rw[gD g]at b;cases b
 exact#[b,e0,λm=>by rw[jY e0 m]at b;cases b]
def HSt.ready(hL:∀p,0<L p)(hs:HSt n (ps++bU rs) L E t rs h A ats)(nd:rs.flatten.Nodup)(h1:rs[h]? =some row)(h2:ats[h]? =some k)(h3:row[k]? =some pc):
  Rdy (ps++bU rs) E t pc↔Rdy ps (begun L E t A) t pc/\(k=0∨∃q e,row[k-1]? =some q/\begun L E t A q=some e/\e<=t):=by
 rw[<-aM8 (A:=A) hL];constructor
 ·intro r;refine#[λq m=>r q (Bo _ m),?_];by_cases hk:k=0
  ·exact .inl hk
  ·right
   have hkl:k-1<row.length:=by have:=(Ay.mp h3).1;lia
   have hq:row[k-1]? =some row[k-1]:=Ag hkl;obtain⟨e,e1,e2⟩:=r row[k-1] (Be _ (gM.mpr #[h,k-1,row,h1,by rw[show k-1+1=k by lia];exact h3,hq]));exact#[_,e,hq,e1,e2]
 ·rintro⟨r,o⟩ q m;rcases Bd.mp m with m|m
  ·exact r q m
  ·obtain⟨i,j,row',g1,g2,g3⟩:=gM.mp m;obtain⟨e1,e2⟩:=kJ nd g1 h1 g2 h3;subst e1;rw[h1]at g1;cases g1;rcases o with z|⟨q',e,z1,z2,z3⟩
   ·lia
   ·rw[show k-1=j by lia,g3]at z1;cases z1;exact#[e,z2,z3]
def HSt.go(hs:HSt n G L E t rs h A ats)(nd:rs.flatten.Nodup)(low:∀p∈rs.flatten,p<n)(hG:∀p q,(p,q)∈bU rs->(p,q)∈G)(h1:rs[h]? =some row)(h2:ats[h]? =some k)(h3:row[k]? =some pc)(r:Rdy G E t pc):HSt n G L E t rs (h+1) (A++[pc]) (ats.set h (k+1)):=by
 obtain⟨b0,e0,na⟩:=hs.next nd h1 h2 (Ak k) h3;have hh:h<ats.length:=(Ay.mp h2).1;have hb:∀p,begun L E t (A++[pc]) p≠none↔begun L E t A p≠none∨p=pc:=λp=>by
  cases g:E p with
  |some e=>rw[gD g,gD g];simp
  |none=>
   by_cases m:p∈A
   ·rw[jY g m,jY g (Bo _ m)];simp
   ·by_cases z:p=pc
    ·rw[jY g (by rw[z];simp)];simp[z]
    ·rw[pO g m,pO g (by simp[m,z])];simp[z]
 refine#[#[by rw[Cg];exact hs.cur.len,λi row' k' g1 g2=>?_,λi row' k' g1 g2 j p g3=>?_],λp hp=>?_,λi row' p hi g1 g2 g3 g4=>?_]
 ·by_cases z:h=i
  ·subst z;rw[Hv hh]at g2;rw[h1]at g1;cases g1;cases g2;exact(Ay.mp h3).1
  ·rw[El z]at g2;exact hs.cur.le i row' k' g1 g2
 ·rw[hb];by_cases z:h=i
  ·subst z;rw[Hv hh]at g2;rw[h1]at g1;cases g1;cases g2;rw[hs.cur.beg h row k h1 h2 j p g3];constructor
   ·rintro(l|l)
    ·lia
    ·subst l;have:=(kJ nd h1 h1 g3 h3).2
     lia
   ·intro l;by_cases y:j=k
    ·subst y;rw[h3]at g3;cases g3;exact .inr rfl
    ·exact .inl ∅
  ·rw[El z]at g2;rw[hs.cur.beg i row' k' g1 g2 j p g3];constructor
   ·rintro(l|l)
    ·exact l
    ·subst l;exact Ab2 (kJ nd h1 g1 h3 g3).1 z
   ·exact .inl
 ·rcases Bd.mp hp with m|m
  ·obtain⟨x1,x2,x3,i,row',x4,x5⟩:=hs.inA p m;exact#[x1,x2,x3,i,row',∅,x5]
  ·rw[Ap.mp m];exact#[low pc (Ds.mpr #[row,Ai h1,Ai h3]),e0,r,h,row,∅,h1,Ai h3]
 ·by_cases z:i<h
  ·exact Bo _ (hs.all i row' p z g1 g2 g3 g4)
  ·have:i=h:=by lia
   subst this;rw[h1]at g1;cases g1;obtain⟨j,hj⟩:=Cu.mp g2;rcases Iw j k with l|l|l
   ·have:=(hs.cur.beg i row k h1 h2 j p hj).mpr l;by_cases m:p∈A
    ·exact Bo _ m
    ·rw[pO g3 m]at this;exact Ab2 rfl this
   ·subst l;rw[h3]at hj;cases hj;simp
   ·have hjl:j-1<row.length:=by have:=(Ay.mp hj).1;lia
    have hq:row[j-1]? =some row[j-1]:=Ag hjl;obtain⟨e,e1,_⟩:=g4 _ (hG _ _ (gM.mpr #[i,j-1,row,h1,by rw[show j-1+1=j by lia];exact hj,hq]));have:=(hs.next nd h1 h2 (show k<=j-1 by lia) hq).2.1;rw[this]at e1;cases e1
def HSt.skip(hs:HSt n G L E t rs h A ats)(nd:rs.flatten.Nodup)(hG:∀p q,(p,q)∈bU rs->(p,q)∈G)(h1:rs[h]? =some row)(h2:ats[h]? =some k)(no:∀p,row[k]? =some p->¬Rdy G E t p):HSt n G L E t rs (h+1) A ats:=by
 refine#[hs.cur,λp hp=>?_,λi row' p hi g1 g2 g3 g4=>?_]
 ·obtain⟨x1,x2,x3,i,row',x4,x5⟩:=hs.inA p hp;exact#[x1,x2,x3,i,row',∅,x5]
 ·by_cases z:i<h
  ·exact hs.all i row' p z g1 g2 g3 g4
  ·have:i=h:=by lia
   subst this;rw[h1]at g1;cases g1;obtain⟨j,hj⟩:=Cu.mp g2;rcases Iw j k with l|l|l
   ·have:=(hs.cur.beg i row k h1 h2 j p hj).mpr l;by_cases m:p∈A
    ·exact m
    ·rw[pO g3 m]at this;exact Ab2 rfl this
   ·subst l;exact Ab2 g4 (no p hj)
   ·have hjl:j-1<row.length:=by have:=(Ay.mp hj).1;lia
    have hq:row[j-1]? =some row[j-1]:=Ag hjl;obtain⟨e,e1,_⟩:=g4 _ (hG _ _ (gM.mpr #[i,j-1,row,h1,by rw[show j-1+1=j by lia];exact hj,hq]));have:=(hs.next nd h1 h2 (show k<=j-1 by lia) hq).2.1;rw[this]at e1;cases e1
def HSt.end(hs:HSt n G L E t rs rs.length A ats)(cov:∀p,p<n->p∈rs.flatten):(∀p∈A,p<n/\Rdy G E t p)/\∀p,p<n->E p=none->Rdy G E t p->p∈A:=by
 refine#[λp hp=>let⟨x1,_,x3,_⟩:=hs.inA p hp;#[x1,x3],λp hp e r=>?_];obtain⟨row,hr,hm⟩:=Ds.mp (cov p hp);obtain⟨i,hi⟩:=Cu.mp hr;exact hs.all i row p (Ay.mp hi).1 hi hm e r
def aEi(E:Nat->Option Nat)(t p:Nat):Bool:=match E p with|some e=>decide (t<e)|none=>true
def left(n:Nat)(E:Nat->Option Nat)(t:Nat):Nat:=(Bq n).countP (aEi E t)
theorem yM:∀{l:List Nat},(∀x∈l,Q x=true->P x=true)->(∃x∈l,P x=true/\Q x=false)->l.countP Q<l.countP P
 | [],_,h=>by obtain⟨x,hx,_⟩:=h;cases hx
 |a::l,i,h=>by
  have il:∀x∈l,Q x=true->P x=true:=λx hx=>i x (Af _ hx);have le:l.countP Q<=l.countP P:=List.countP_mono_left il;rw[Mn,Mn];obtain⟨x,hx,h1,h2⟩:=h;rcases Ax.mp hx with e|hx
  ·subst e;rw[h1,h2];simp
   lia
  ·have lt:=yM il #[x,hx,h1,h2];have ia:=i a Ah;cases hq:Q a with
   |false=>simp;lia
   |true=>rw[ia hq];simp;lia
def aMd{n:Nat}{L:Nat->Nat}{E:Nat->Option Nat}{t t2:Nat}{A:List Nat}(l:t<t2)(hp:p<n)(h:begun L E t A p=some t2):left n (begun L E t A) t2<left n E t:=by
 refine yM (λx _ hx=>?_) #[p,By.mpr hp,?_,?_]
 ·unfold aEi at hx⊢;cases g:E x with
  |none=>rfl
  |some e=>
   rw[gD g]at hx;have:=Ab3 hx;exact Ab5 ∅
 ·unfold aEi;rcases lG h with g|⟨g,_,_⟩
  ·rw[g];exact Ab5 l
  ·rw[g]
 ·unfold aEi;rw[h];exact Ab6 (Ej _)
section
variable {ts:List Pr}{G:List Pr}
abbrev Te(ts:List Pr)(p:Nat):Nat:=(ts.getD p (0,0)).2
def aNz(h:∀x∈ls,0<x)(hp:p<ls.length):0<Lf ls p:=by
 unfold Lf;rw[Cc,Ag hp];exact h _ (Kj hp)
def Sys.mono{G G':List Pr}{ts ts':List Pr}(hL:∀x∈ls,0<x)(hb:Below ls.length G)(sub:∀p∈G,p∈G')(s:Sys G ls ts)(s':Sys G' ls ts'):∀m p,p<ls.length->Te ts' p=m->Te ts p<=m:=by
 intro m;induction m using Nj with
 |ind m ih=>
  intro p hp e;obtain⟨e1,r1,b1⟩:=s.sys p hp;obtain⟨e2,r2,b2⟩:=s'.sys p hp;have L0:=aNz hL hp;unfold Te at*;rcases b1 with z|⟨q,hq,z⟩
  ·lia
  ·have z:=Bs z;obtain⟨x,h1,h2⟩:=r2 q (sub _ hq);have h1:=Bs h1;have:=ih x ∅ q (hb _ hq).2 h1
   lia
def Sys.le{G G':List Pr}{ts ts':List Pr}(hL:∀x∈ls,0<x)(hb:Below ls.length G)(sub:∀p∈G,p∈G')(s:Sys G ls ts)(s':Sys G' ls ts')(hp:p<ls.length):Te ts p<=Te ts' p:=Sys.mono hL hb sub s s' _ p hp rfl
def Sys.same{G G':List Pr}{ts ts':List Pr}(hL:∀x∈ls,0<x)(hb:Below ls.length G)(sub:∀p,p∈G↔p∈G')(s:Sys G ls ts)(s':Sys G' ls ts'):ts=ts':=by
 refine Xd (by rw[s.len,s'.len]) λi h1 h2=>?_;have hi:i<ls.length:=by rw[<-s.len];exact h1
 have l1:=Sys.le hL hb (λp hp=>(sub p).mp hp) s s' hi;have l2:=Sys.le hL (λp hp=>hb p ((sub p).mpr hp)) (λp hp=>(sub p).mpr hp) s' s hi;have e1:=(s.sys i hi).1;have e2:=(s'.sys i hi).1;have g1:ts.getD i (0,0)=ts[i]:=by rw[Cc,Ag h1];rfl
 have g2:ts'.getD i (0,0)=ts'[i]:=by rw[Cc,Ag h2];rfl
 unfold Te at l1 l2;rw[g1]at e1 l1 l2;rw[g2]at e2 l1 l2;exact Qi ∅ ∅
def wL{row:List Nat}{j p:Nat}(f:Nat->Nat)(h:row[j]? =some p):((row.take (j+1)).map f).sum=((row.take j).map f).sum+f p:=by
 rw[Nx,h];simp
def aYe{row:List Nat}(s:Sys G ls ts)(sub:∀p∈bU hs,p∈G)(hi:hs[i]? =some row)(low:∀p∈row,p<ls.length):∀(j p:Nat),row[j]? =some p->((row.take (j+1)).map (Lf ls)).sum<=Te ts p:=by
 intro j;induction j with
 |zero=>
  intro p h;rw[wL _ h,Rr,Gz,Aaj];have:=(s.sys p (low p (Ai h))).1;unfold Te
  lia
 |succ j ih=>
  intro p h;have jl:j<row.length:=by have:=(Ay.mp h).1;lia
  have hq:row[j]? =some row[j]:=Ag jl;have h1:=ih _ hq;obtain⟨e1,r1,_⟩:=s.sys p (low p (Ai h));obtain⟨x,h2,h3⟩:=r1 row[j] (sub _ (gM.mpr #[i,j,row,hi,h,hq]));have h2:=Bs h2;rw[wL _ h];unfold Te at*
  lia
def aRb{m:Nat}{row:List Nat}(s:Sys G ls ts)(sub:∀p∈bU hs,p∈G)(hi:row∈hs)(low:∀p∈row,p<ls.length)(mx:aFg m ts):(row.map (Lf ls)).sum<=m:=by
 obtain⟨i,hi⟩:=Cu.mp hi;by_cases e:row=[]
 ·rw[e];exact Bp _
 ·have l0:=Eg.mpr e;have hq:row[row.length-1]? =some (row[row.length-1]'∅):=Ag ∅;have h1:=aYe s sub hi low _ _ hq;rw[show row.length-1+1=row.length by lia,Ml]at h1;generalize row[row.length-1]'∅=p at hq h1;have pl:p<ts.length:=by rw[s.len];exact low p (Ai hq)
  have h2:=mx.2 _ (Kj pl);unfold Te at h1;rw[Cc,Ag pl]at h1;exact Dd h1 h2
def aYf{row:List Nat}(s:Sys (bU hs) ls ts)(nd:hs.flatten.Nodup)(hi:hs[i]? =some row)(low:∀p∈row,p<ls.length):∀(j p:Nat),row[j]? =some p->Te ts p<=((row.take (j+1)).map (Lf ls)).sum:=by
 intro j;induction j with
 |zero=>
  intro p h;obtain⟨e1,_,b1⟩:=s.sys p (low p (Ai h));rw[wL _ h,Rr,Gz,Aaj];unfold Te;rcases b1 with z|⟨q,hq,_⟩
  ·lia
  ·obtain⟨i',j',row',h1,h2,h3⟩:=gM.mp hq;obtain⟨_,e2⟩:=kJ nd hi h1 h h2
   lia
 |succ j ih=>
  intro p h;obtain⟨e1,_,b1⟩:=s.sys p (low p (Ai h));rw[wL _ h];unfold Te at*;rcases b1 with z|⟨q,hq,z⟩
  ·lia
  ·obtain⟨i',j',row',h1,h2,h3⟩:=gM.mp hq;obtain⟨e2,e3⟩:=kJ nd hi h1 h h2;rw[<-e2,hi]at h1;cases h1;have:=ih q (by rw[show j=j' by lia];exact h3);have z:=Bs z
   lia
theorem wJ{f g:Nat->Nat}{p c:Nat}:∀{l:List Nat},(∀x∈l,f x<=g x)->p∈l->f p+c<=g p->(l.map f).sum+c<=(l.map g).sum
 | [],_,h,_=>by cases h
 |a::l,le,h,hp=>by
  rw[Bj,Bj,Fj,Fj];have la:=le a Ah;have le':∀x∈l,f x<=g x:=λx hx=>le x (Af _ hx);rcases Ax.mp h with e|h
  ·rw[e]at hp;have:∀l:List Nat,(∀x∈l,f x<=g x)->(l.map f).sum<=(l.map g).sum:=by
    intro l;induction l with
    |nil=>exactλ_=>Ak _
    |cons b l ih=>
     intro h;rw[Bj,Bj,Fj,Fj];have h1:=h b Ah;have h2:=ih λx hx=>h x (Af _ hx)
     lia
   have:=this l le'
   lia
  ·have:=wJ le' h hp
   lia
def aOg(hL:∀x∈ls,0<x)(hb:Below ls.length G)(s:Sys G ls ts):∀m p,p<ls.length->Te ts p=m->m<=((Bq ls.length).map λx=>if Te ts x<=m then Lf ls x else 0).sum:=by
 intro m;induction m using Nj with
 |ind m ih=>
  intro p hp e;obtain⟨e1,r1,b1⟩:=s.sys p hp;have L0:=aNz hL hp;have hm:=By.mpr hp;rcases b1 with z|⟨q,hq,z⟩
  ·have h1:=wJ (f:=λ_=>0) (g:=λx=>if Te ts x<=m then Lf ls x else 0) (c:=Lf ls p) (l:=Bq ls.length) (λx _=>Bp _) hm (by show 0+Lf ls p<=if Te ts p<=m then Lf ls p else 0;rw[Ab1 ∅];lia);unfold Te at*
   lia
  ·have z:=Bs z;have lt:(ts.getD p (0,0)).1<m:=by unfold Te at e;lia
   have h0:=ih _ lt q (hb _ hq).2 z;have h1:=wJ (f:=λx=>if Te ts x<=(ts.getD p (0,0)).1 then Lf ls x else 0) (g:=λx=>if Te ts x<=m then Lf ls x else 0) (c:=Lf ls p) (l:=Bq ls.length) (λx _=>by
    show(if _ then _ else _)<=if _ then _ else _
    split
    ·rw[Ab1 ∅];exact Ak _
    ·exact Bp _) hm (by show(if Te ts p<=_ then Lf ls p else 0)+Lf ls p<=if Te ts p<=m then Lf ls p else 0;rw[Ab0 ∅,Ab1 ∅];lia)
   unfold Te at*
   lia
def aQ2(ls:List Nat):(Bq ls.length).map (Lf ls)=ls:=by
 refine Xd (by simp) λi h1 h2=>?_;simp[Lf,Cc,Ag h2]
def aWy{m:Nat}(hL:∀x∈ls,0<x)(hb:Below ls.length G)(s:Sys G ls ts)(mx:aFg m ts):m<=ls.sum:=by
 rcases mx.1 with z|⟨t,ht,e⟩
 ·lia
 ·obtain⟨p,hp,rfl⟩:=Hn ht;have pl:p<ls.length:=by rw[<-s.len];exact hp
  have e':Te ts p=m:=by
   unfold Te;rw[Cc,Ag hp];exact e
  have h1:=aOg hL hb s m p pl e';have h2:=wJ (f:=λx=>if Te ts x<=m then Lf ls x else 0) (g:=Lf ls) (p:=p) (c:=0) (l:=Bq ls.length) (λx _=>by show(if _ then _ else _)<=_;split<;>lia) (By.mpr pl) (by show(if _ then _ else _)+0<=_;split<;>lia);rw[aQ2]at h2
  lia
end
end G4
namespace Q
variable {us:List Value}{hs:#v[f]}{ps:List Str}{ls:List Nat}{ns:List Int}{x q:Str}{α:Type}{ts:List Pr}{R:Sl->Prop}{l:List Nat}{i:Nat}{wt wt':List Pr}{t:Tm}{n:Nat}{r:Int}
open PySem PyProof.Rows L2 KR G4
variable {P:An}{w:Bh}{K:Ad}{mg:Str->#v[10]}{base:Heap}{f C:Addr}{fd:Br}{N:Cn}{d:Nat}{CG CJ CP:Addr}
abbrev ntU(l:List Nat):List U:=l.map λn:Nat=>U.n n
def tab{α:Type}(n:Nat)(L:Nat->α):List α:=(Bq n).map L
def oO{n v:Nat}{L:Nat->α}(h:v<n):(tab n L)[v]? =some (L v):=by simp[tab,h]
def zX{L:Nat->α}:(tab n L).length=n:=by simp[tab]
def zY{n r:Nat}{L:Nat->α}{x:α}:(tab n L).set r x=tab n λv=>if v=r then x else L v:=by
 apply Mb;intro i;rw[Lz];by_cases e:r=i
 ·subst e;by_cases h:r<n
  ·simp[tab,h]
  ·simp[tab,h]
 ·rw[Ab0 e];by_cases h:i<n
  ·simp[tab,h,Dc e]
  ·simp[tab,h]
def qQ{n v:Nat}(h:v<n):ixN n (v:Int)=some v:=by
 unfold ixN;rw[Ab1 ∅,Ab1 ∅];rfl
def aOc(dn:List Pr)(p:Pr)(v:Nat):fV (dn++[p]) [] v=fV dn [] v+if v=p.1 then 1 else 0:=by
 unfold fV;rw[List.countP_append,List.countP_singleton];congr 1;simp[eq_comm]
def aQ8(dn:List Pr)(p:Pr)(m:Nat):gY (dn++[p]) m=if m=p.2 then gY dn m++[p.1]else gY dn m:=by
 unfold gY;rw[Wa,Co];by_cases e:m=p.2
 ·rw[Ab1 e];simp[e]
 ·rw[Ab0 e];simp[Dc e]
def pZ(n:Nat):gU 0 n=ntU (Bq n):=by
 unfold gU;exact Lb λi _=>by simp
theorem dZ{α:Type}{A:α->U}{B:α->Option U}{f:U->(Option U->Prop)->Prop}{R:List U->Prop}:∀{l:List α}{af:List U},(∀y∈l,∀k,k (B y)->f (A y) k)->R (af++l.filterMap B)->jA f (l.map A) af R
 | [],af,_,r=>by rw[Wb,Bk]at r;exact r
 |y::l,af,hf,r=>by
  refine hf y Ah _ ?_;have hf':∀y∈l,∀k,k (B y)->f (A y) k:=λx hx=>hf x (Af _ hx);cases e:B y with
  |none=>
   rw[Hj e]at r;exact dZ hf' r
  |some x=>
   rw[Hi e]at r;exact dZ hf' (by rw[Cz];exact r)
theorem xH{p:Nat->Bool}:∀l:List Nat,l.filterMap (λv=>if p v=true then some (U.n v)else none)=ntU (l.filter p)
 | []=>rfl
 |v::l=>by
  by_cases h:p v=true
  ·rw[Hi (by rw[Ab1 h]),Js h,xH l];rfl
  ·rw[Hj (by rw[Ab0 h]),Jt h,xH l]
def bBb{dn:List Pr}{m:Nat}:(gY dn m).length<=dn.length:=by
 unfold gY;rw[Ab];exact Mz ..
def nH(a b:Nat):U.eq (.n (a:Int)) (.n (b:Int))=decide (a=b):=by
 show eqV (.int a) (.int b)=_;by_cases h:a=b
 ·simp[eqV,h]
 ·simp[eqV,h]
  lia
def aPf{ms:List Int}(h:ms.Perm (l.map λn:Nat=>(n:Int))):∃k:List Nat,ms=k.map (λn:Nat=>(n:Int))/\k.Perm l:=by
 refine#[ms.map Kg,?_,?_]
 ·rw[Ba];have:∀x∈ms,((λn:Nat=>(n:Int))∘Kg) x=x:=λx hx=>by
   obtain⟨n,_,rfl⟩:=Aj.mp (h.subset hx);simp
  rw[Lb this,List.map_id']
 ·have:=h.map Kg;rw[Ba,show(Kg∘λn:Nat=>(n:Int))=id from funext λn=>by simp,Kz]at this;exact this
def aOi:Fv:=λus R=>∃(ps:List Pr)(n:Nat),us=[.ls (prU ps),.n n]/\Below n ps/\n<64/\ps.length<=1000/\∀ws,aDo ps n ws->Stuck ps n ws->R (.ow (rwU ws))
abbrev uG:List Str:=["pairs","many","lacking","readers","reader","made","waves","wave","freed"]
def bR:aQ ["pairs","many","lacking","readers","reader","made","waves","wave","freed"] ["pairs","many"] (aC iK):={}
def aPr(F:Fun K "waves_ahead" "waves_ahead" iK f fd)(T:Txt mg):↥1 f fd ["pairs","many"] (spV aOi):=by
 refine vfn F bR (λae A outer s H E hr=>(aD (aZ (i:=2) bR.nd (cT aQg aPq (bL (aB aH aF)) (aA 1))) (aD (aR9 (i:=3) (y:="number") bR.nd (aC iK) uG rfl rfl (λx h=>aV h) #v[4] rfl (vic (eY T.range (aJ (aA 1) aM))) ↑(aW (i:=0) (~~~["number"]) rfl (Dl rfl) (Dr rfl)) (bC ⋯) (λcl C s2 H2 fp=>aEo dN)) (aD (cO Bl rfl (aX (aA 0)) (rJ rfl (cF (i:=4) bR.nd (cF (i:=5) bR.nd mX))) (aD (aAb 2 (aA 4) (cT dG fB (bI aY bH (aA 2) (aA 4)) aH)) (aG (aHr 3 (aA 5) (aA 4))))) (aE8 3 (aD (aZ (i:=6) bR.nd (bL aF)) (aD (aZd (i:=7) (own:=["number"]) (cap:=[("lacking",2)]) bR.nd (aC iK) uG rfl rfl (λx h=>aV h) #v[4] rfl (vic (eY T.range (aJ (aA 1) aM))) ↑(aW (i:=0) (~~~["number","lacking"]) rfl (Dl rfl) (Dr rfl)) (bC ⋯) ↑(bK (eO (huD hr)) dC (bI aY bH (aA 1) (aA 0)) aH) ↑(aA 0)) (aD (aHs Bl (bK lL cU (aO aK bF T.len Cf (aJ (aA 7) aM)) aH) (fU 7 (aD (vK 6 (aA 7)) (aD (aZ (i:=8) bR.nd (bL aF)) (aD (cO Bl rfl (aX (aA 7)) (cR (i:=5) bR.nd) (aG (cO Bl rfl (aX (bI aY bH (aA 3) (aA 5))) (cR (i:=4) bR.nd) (aD (aAb 2 (aA 4) (cT sY cU (bI aY bH (aA 2) (aA 4)) aH)) (aG (cB (bK (eO (huD hr)) dC (bI aY bH (aA 2) (aA 4)) aH) (aG (vK 8 (aA 4))) bA)))))) (aG (aZ (i:=7) bR.nd (aO yK aKj T.sorted To (aJ (aA 8) aM))))))))) (aG (jU 6)))))))))) ?_;rintro _ R ⟨ps,n,rfl,hb,n64,pl,q⟩;refine#[rfl,∅,∅,⋯,?_];have e0:(Bi (n:Int).toNat [U.n 0]).flatten=tab n λ_=>U.n 0:=by
  rw[Ck,Oz];unfold tab;rw[La,Dm]
 have e1:((gU 0 (n:Int).toNat).map λ_=>([]:List U))=tab n λ_=>[]:=by
  rw[Ck,pZ,Ba];rfl
 show aYz 2 _ _ (.ow (Bi (n:Int).toNat [U.n 0]).flatten);rw[e0];refine#[∅,∅,by rw[Ck,cM];lia,?_];rw[e1];refine bG (λl ρ=>∃(dn rst:List Pr)(a b:Sl),l=prU rst/\dn++rst=ps/\ρ=[.sh (.ls (prU ps)),.sh (.n n),.ow (tab n λv=>U.n (fV dn [] v)),.oo (llO (tab n λm=>ntU (gY dn m))),a,b,.no,.no,.no]) ?_ ?_ #[[],ps,_,_,rfl,rfl,rfl]
 rotate_left
 ·rintro u l ρ ⟨dn,rst,a,b,el,ed,rfl⟩ ih;cases rst with
  |nil=>cases el
  |cons p rst=>
   cases el;obtain⟨p1,p2⟩:=hb p (by rw[<-ed];simp);have dl:dn.length+1<=ps.length:=by rw[<-ed];simp
   have rl:=bBb (dn:=dn) (m:=p.2);refine#[rfl,U.n (fV dn [] p.1),bQ (oO p1),p.1,p.1,rfl,by rw[zX];exact qQ p1,?_];refine#[_,rfl,p.2,p.2,_,rfl,by rw[zX];exact qQ p2,oO p2,by rw[Ab];lia,?_];refine ih _ #[dn++[p],rst,.sh (.n p.1),.sh (.n p.2),rfl,by rw[<-ed];simp,?_];show [_,_,Sl.ow ((tab n λv=>U.n (fV dn [] v)).set p.1 (.n ((fV dn [] p.1:Nat)+1))),Sl.oo (llO ((tab n λm=>ntU (gY dn m)).set p.2 (ntU (gY dn p.2)++[.n p.1]))),_,_,_,_,_]=_;rw[zY,zY];have e2:(λv=>if v=p.1 then U.n ((fV dn [] p.1:Nat)+1)else U.n (fV dn [] v))=λv=>U.n (fV (dn++[p]) [] v):=funext λv=>by
    rw[aOc];by_cases e:v=p.1
    ·subst e;simp
    ·simp[e]
   have e3:(λm=>if m=p.2 then ntU (gY dn p.2)++[U.n p.1]else ntU (gY dn m))=λm=>ntU (gY (dn++[p]) m):=funext λm=>by
    rw[aQ8];by_cases e:m=p.2
    ·subst e;simp
    ·simp[e]
   rw[e2,e3]
 rintro ρ ⟨dn,rst,a,b,el,ed,rfl⟩;obtain rfl:rst=[]:=Bf.mp el.symm;rw[Bk]at ed;subst ed;refine#[_,rfl,∅,∅,by rw[Ck,cM];lia,?_];rw[Ck,pZ];refine dZ (B:=λv:Nat=>if decide (fV dn [] v=0)=true then some (U.n v)else none) (λv hv k hk=>?_) ?_
 ·have hv:=By.mp hv;refine#[_,bQ (oO hv),trivial,trivial,λz=>?_,λz=>?_]
  ·have z:U.eq (.n (fV dn [] v:Nat)) (.n ((0:Nat):Int))=true:=z;rw[nH]at z;rw[Ab1 z]at hk;exact hk
  ·have z:U.eq (.n (fV dn [] v:Nat)) (.n ((0:Nat):Int))=false:=z;rw[nH]at z;rw[Ab0 (by rw[z];decide)]at hk;exact hk
 rw[Bm,xH];have ll:((tab n λm=>ntU (gY dn m)).map U.ls)=tab n λm=>U.ls (ntU (gY dn m)):=by unfold tab;rw[Ba];rfl
 rw[ll];refine#[λm ρ=>∃(ws:#v[f])(w:List Nat)(a b c x:Sl),(x=.ow (ntU w)∨x=.sh (.ls (ntU w)))/\ρ=[.sh (.ls (prU dn)),.sh (.n n),.ow (tab n λv=>U.n (fV dn ws.flatten v)),.sh (.ls (tab n λm=>U.ls (ntU (gY dn m)))),a,b,.ow (rwU ws),x,c]/\yX dn n ws w/\m=n-ws.flatten.length,#[_,[],_,_,_,_,_,.inl rfl,rfl,yX.start rfl,rfl],?_];rintro m ρ ⟨ws,w,a,b,c,x,hx,rfl,kh,rfl⟩;have hkn:=kh.nd;have ew:(ws++[w]).flatten=ws.flatten++w:=by simp
 have hlen:=kI n _ hkn.1 hkn.2.1;rw[ew,Am]at hlen;have wsl:ws.length<=n:=by
  have:∀l:List (List Nat),(∀x∈l,x≠[])->l.length<=l.flatten.length:=by
   intro l;induction l with
   |nil=>intro _;simp
   |cons a l ih=>
    intro h;have h1:=ih λx hx=>h x (Af _ hx);have h2:=Eg.mpr (h a Ah);rw[Dt,Am,Ao]
    lia
  have:=this ws kh.ok.full
  lia
 have fz:∀(G:TVS)(E:uJ)(s0 s1 s2 s3 s4 s5 s6 s8:Sl),G E [s0,s1,s2,s3,s4,s5,s6,.sh (.ls (ntU w)),s8]->aYu 7 G E [s0,s1,s2,s3,s4,s5,s6,x,s8]:=λG E s0 s1 s2 s3 s4 s5 s6 s8 h=>by
  rcases hx with rfl|rfl<;>exact h
 have ln:∀R:Sl->Prop,R (.sh (.n (w.length:Nat)))->aJ0 aW1 (aWg (aNi 7) aRt) [.sh (.ls (prU dn)),.sh (.n n),.ow (tab n λv=>U.n (fV dn ws.flatten v)),.sh (.ls (tab n λm=>U.ls (ntU (gY dn m)))),a,b,.ow (rwU ws),x,c] R:=λR h=>by
  rcases hx with rfl|rfl
  ·show R (.sh (.n ((ntU w).length:Nat)));rw[Ab];exact h
  ·show R (.sh (.n ((ntU w).length:Nat)));rw[Ab];exact h
 refine ln _ #[λz=>fz _ _ _ _ _ _ _ _ _ _ ?_,λz=>?_]
 rotate_left
 ·have z:=Ab4 z;obtain rfl:w=[]:=Dp.mp ∅;exact q ws kh.ok kh.done
 have z:=Ab3 z;have wn:w≠[]:=λe=>by rw[e]at z;simp at z
 refine#[by rw[Ab];lia,?_];have es:rwU ws++[U.ls (ntU w)]=rwU (ws++[w]):=by simp
 show iG (iC 5) _ _ (ntU w) [.sh (.ls (prU dn)),.sh (.n n),.ow (tab n λv=>U.n (fV dn ws.flatten v)),.sh (.ls (tab n λm=>U.ls (ntU (gY dn m)))),a,b,.ow (rwU ws++[U.ls (ntU w)]),.sh (.ls (ntU w)),.ow []];rw[es];refine bG (λl ρ=>∃(ds rst F:List Nat)(a b:Sl),l=ntU rst/\ds++rst=w/\Dec n (fV dn ws.flatten) (fV dn (ws.flatten++ds)) F/\ρ=[.sh (.ls (prU dn)),.sh (.n n),.ow (tab n λv=>U.n (fV dn (ws.flatten++ds) v)),.sh (.ls (tab n λm=>U.ls (ntU (gY dn m)))),a,b,.ow (rwU (ws++[w])),.sh (.ls (ntU w)),.ow (ntU F)]) ?_ ?_ #[[],w,[],_,_,rfl,rfl,by rw[Bk];exact .start,by rw[Bk];rfl]
 ·rintro ρ ⟨ds,rst,F,a,b,el,ed,dc,rfl⟩;obtain rfl:rst=[]:=Bf.mp el.symm;rw[Bk]at ed;subst ed;have Fl:F.length<=n:=kI n F dc.nd λv hv=>((dc.mem v).mp hv).1;refine#[F.map λn:Nat=>(n:Int),by rw[Ba];rfl,by rw[Ab];lia,λms h1 h2=>?_];obtain⟨k,rfl,kp⟩:=aPf h1;rw[Io]at h2;have e3:(k.map λn:Nat=>(n:Int)).map U.n=ntU k:=by rw[Ba];rfl
  rw[<-ew]at dc;have wl:0<ds.length:=by lia
  refine#[n-(ws++[ds]).flatten.length,by rw[ew,Am];lia,ws++[ds],k,a,b,.ow (ntU F),.ow (ntU k),.inl rfl,?_,yX.step hb kh wn dc kp (h2.imp λh=>by lia),rfl];rw[ew, <-e3];rfl
 ·rintro u l ρ ⟨ds,rst,F,a,b,el,ed,dc,rfl⟩ ih;cases rst with
  |nil=>cases el
  |cons mm rst=>
   cases el;have mn:mm<n:=hkn.2.1 mm (by rw[ew, <-ed];simp);have mD:mm∉ws.flatten++ds:=λh=>by
    have:=hkn.1;rw[ew, <-ed, <-Cz]at this;exact(Ei.mp this).2.2 mm h mm Ah rfl
   refine#[_,bQ (oO mn),?_];refine bG (λl ρ=>∃(j:Nat)(L:Nat->Nat)(F:List Nat)(a:Sl),l=ntU ((gY dn mm).drop j)/\j<=(gY dn mm).length/\(∀v,L v+((gY dn mm).take j).count v=fV dn (ws.flatten++ds) v)/\Dec n (fV dn ws.flatten) L F/\ρ=[.sh (.ls (prU dn)),.sh (.n n),.ow (tab n λv=>U.n (L v)),.sh (.ls (tab n λm=>U.ls (ntU (gY dn m)))),a,.sh (.n mm),.ow (rwU (ws++[w])),.sh (.ls (ntU w)),.ow (ntU F)]) ?_ ?_ #[0,_,F,a,by rw[Rw],Bp _,λv=>by rw[Rr];rfl,dc,rfl]
   ·rintro ρ ⟨j,L,F,a,e1,hj,hL,dc,rfl⟩;have je:j=(gY dn mm).length:=by
     have:=Ab9 Fm e1;simp at this
     lia
    rw[je,Ml]at hL;have eL:L=fV dn (ws.flatten++(ds++[mm])):=funext λv=>by
     have h1:=hL v;have h2:=uU mD v dn;rw[<-Cz]
     lia
    rw[eL]at dc⊢;exact ih _ #[ds++[mm],rst,F,a,_,rfl,by rw[<-ed];simp,dc,rfl]
   ·rintro u l ρ ⟨j,L,F,a,e1,hj,hL,dc,rfl⟩ ih2;have hlt:j<(gY dn mm).length:=by
     have:=Ab9 Fm e1;simp at this
     lia
    rw[Ha hlt]at e1;cases e1;have hr:=Ag hlt;generalize hg:(gY dn mm)[j]=r at hr⊢;have rn:r<n:=by
     have:r∈gY dn mm:=Ai hr;obtain⟨p,hp,rfl⟩:=Aj.mp this;exact(hb p (Gq.mp hp).1).1
    obtain⟨h0,hL'⟩:=aNe mD hL hr;refine#[_,bQ (oO rn),r,r,rfl,by rw[zX];exact qQ rn,?_];have et:(tab n λv=>U.n (L v)).set r (.n ((L r:Nat)-1:Int))=tab n λv=>U.n (less L r v):=by
     rw[zY];congr 1;funext v;unfold less;by_cases e:v=r
     ·rw[Ab1 e,Ab1 e];congr 1
      lia
     ·rw[Ab0 e,Ab0 e]
    show uJ.nx _ [.sh (.ls (prU dn)),.sh (.n n),.ow ((tab n λv=>U.n (L v)).set r (.n ((L r:Nat)-1:Int))),.sh (.ls (tab n λm=>U.ls (ntU (gY dn m)))),.sh (.n r),.sh (.n mm),.ow (rwU (ws++[w])),.sh (.ls (ntU w)),.ow (ntU F)];rw[et];have lr:less L r r=L r-1:=Ab1 rfl;refine#[_,bQ (oO rn),trivial,trivial,λz=>?_,λz=>?_]
    ·have z:U.eq (.n (less L r r:Nat)) (.n ((0:Nat):Int))=true:=z;rw[nH]at z;have z:=Ab3 z;have fl:=kI n F dc.nd λv hv=>((dc.mem v).mp hv).1;refine#[by rw[Ab];lia,ih2 _ #[j+1,less L r,F++[r],.sh (.n r),rfl,hlt,hL',dc.step0 rn ∅,?_]];rw[show ntU (F++[r])=ntU F++[U.n r]from Co];rfl
    ·have z:U.eq (.n (less L r r:Nat)) (.n ((0:Nat):Int))=false:=z;rw[nH]at z;have z:=Ab4 z;exact ih2 _ #[j+1,less L r,F,.sh (.n r),rfl,hlt,hL',dc.step1 ∅,rfl]
def aUc{l:#v[f]}:(∀x∈l,x≠[])->l.length<=l.flatten.length:=by
 induction l with
 |nil=>intro _;simp
 |cons a l ih=>
  intro h;have h1:=ih λx hx=>h x (Af _ hx);have h2:=Eg.mpr (h a Ah);rw[Dt,Am,Ao]
  lia
def aUg(l:#v[f]):(l.map λw=>(w.length:Int)).sum=(l.flatten.length:Nat):=by
 induction l with
 |nil=>rfl
 |cons a l ih=>
  rw[Bj,Fj,ih,Dt,Am]
  lia
def aZu(ps:List Pr)(n:Nat)(ws:#v[f]):Prop:=aDo ps n ws/\∀v,v<n->v∈ws.flatten
def fOf:Fv:=λus R=>∃(ps:List Pr)(n:Nat),us=[.ls (prU ps),.n n]/\Below n ps/\n<64/\ps.length<=1000/\(∀ws,Stuck ps n ws->∀v,v<n->v∈ws.flatten)/\∀ws,aZu ps n ws->R (.sh (.ls (rwU ws)))
abbrev aH1:List Str:=["pairs","many","waves"]
def yV:aQ ["pairs","many","waves"] ["pairs","many"] (aC rB):={}
def bAp(F:Fun K "waves_of" "waves_of" rB f fd)(aBu:⇑1 "waves_ahead" ["pairs","many"] (spV aOi))(T:Txt mg):↥2 f fd ["pairs","many"] (spV fOf):=by
 refine vfn F yV (λae A outer s H E hr=>(aD (aZ (i:=2) yV.nd (aL aBu (hr.mono ⋯) rfl (aB (aA 0) (aB (aA 1) aF)))) (fU 2 (aD (cB (bK aGx cU (aO (vQ rfl) aD3 T.sum Yu (aJ (dU (own:=["wave"]) (cap:=[]) (aC rB) aH1 rfl rfl (λx h=>aV h) #v[4] rfl (vic (aX (aA 2))) ↑(aW (i:=0) (~~~["wave"]) rfl (Dl rfl) (Dr rfl)) (bC ⋯) ↑#v[c]) aM)) (aA 1)) (aG (aU tO)) bA) (aG (jU 2)))))) ?_;rintro _ R ⟨ps,n,rfl,hb,n64,pl,no,q⟩;refine#[rfl,ps,n,rfl,hb,n64,pl,λws ok st=>?_];have cv:=no ws st;have fl:=kI n _ ok.nodup ok.below;have fg:n<=ws.flatten.length:=by
  have:=aC0 (Bq n) ws.flatten Gw λv hv=>cv v (By.mp hv)
  rwa [Dm]at this
 have wl:=aUc ok.full;have wr:∀w∈ws,w.length<=n:=λw hw=>by
  have:=(Ic hw).length_le
  lia
 refine#[by rw[Ab];lia,dZ (B:=λw:List Nat=>some (U.n (w.length:Nat))) (λw hw k hk=>?_) ?_]
 ·show k (some (.n ((ntU w).length:Nat)));rw[Ab];exact hk
 refine#[ws.map λw=>(w.length:Int),?_,by rw[Ab];lia,λx hx=>?_,λz=>?_,λ_=>q ws #[ok,cv]]
 ·rw[Bm,Dk,Ba];rfl
 ·obtain⟨w,hw,rfl⟩:=Aj.mp hx;have:=wr w hw
  lia
 ·have z:=Ab3 z;rw[aUg]at z
  lia
def nD(ps:List Pr)(v:Nat):List Nat:=(ps.filter λp=>decide (p.1=v)).map (·.2)
def aWt(dn:List Pr)(p:Pr)(m:Nat):nD (dn++[p]) m=if m=p.1 then nD dn m++[p.2]else nD dn m:=by
 unfold nD;rw[Wa,Co];by_cases e:m=p.1
 ·rw[Ab1 e];simp[e]
 ·rw[Ab0 e];simp[Dc e]
def aVm:(nD dn m).length<=dn.length:=by
 unfold nD;rw[Ab];exact Mz ..
def aDr{ps:List Pr}{v q:Nat}:q∈nD ps v↔(v,q)∈ps:=by
 unfold nD;constructor
 ·intro h;obtain⟨p,hp,rfl⟩:=Aj.mp h;obtain⟨h1,h2⟩:=Gq.mp hp;rw[<-Ab3 h2];exact h1
 ·exactλh=>Aj.mpr #[_,Gq.mpr #[h,Ab5 rfl],rfl]
def aV4{g:α->Nat}{l:List α}:[U.ls (l.map λq=>U.n (g q))]=[U.ls ((l.map λq=>((g q:Nat):Int)).map U.n)]:=by
 rw[Ba];rfl
def xU(h:i<ts.length):(prU ts)[i]? =some (.tp [.n (ts.getD i (0,0)).1,.n (ts.getD i (0,0)).2]):=by
 rw[Bg,Cc,Ag h];rfl
def aEj(h:i<l.length):(ntU l)[i]? =some (.n (Lf l i)):=by
 unfold Lf;rw[Bg,Cc,Ag h];rfl
def aEk{g:α->Nat}{l:List α}:ntU (l.map g)=l.map λq=>U.n (g q):=by
 show(l.map g).map (λn:Nat=>U.n n)=_;rw[Ba];rfl
def aX0:prU (ts.set i p)=(prU ts).set i (.tp [.n p.1,.n p.2]):=Ua ..
def aIy:Fv:=λus R=>∃(ls:List Nat)(ps:List Pr),us=[.ls (ntU ls),.ls (prU ps)]/\Below ls.length ps/\ls.length<64/\ps.length<=1000/\(∀ws,Stuck ps ls.length ws->∀v,v<ls.length->v∈ws.flatten)/\∀ts,Sys ps ls ts->R (.ow (prU ts))
abbrev aAg:List Str:=["lasts","pairs","waves","awaited","waiting","other","times","wave","piece","begin"]
def eF:aQ ["lasts","pairs","waves","awaited","waiting","other","times","wave","piece","begin"] ["lasts","pairs"] (aC nP):={}
def aQa(F:Fun K "times_of" "times_of" nP f fd)(aIf:⇑2 "waves_of" ["pairs","many"] (spV fOf))(T:Txt mg):↥3 f fd ["lasts","pairs"] (spV aIy):=by
 refine vfn F eF (λae A outer s H E hr=>(aD (aZ (i:=2) eF.nd (aL aIf (hr.mono ⋯) rfl (aB (aA 1) (aB #v[c] aF)))) (aD (cB (aY2 (aA 2)) (aG jT) bA) (aD (aR9 (i:=3) (y:="last") eF.nd (aC nP) aAg rfl rfl (λx h=>aV h) #v[4] rfl (vic (aX (aA 0))) ↑(aW (i:=0) (~~~["last"]) rfl (Dl rfl) (Dr rfl)) (bC ⋯) (λcl C s2 H2 fp=>aEo dN)) (aD (cO Bl rfl (aX (aA 1)) (rJ rfl (cF (i:=4) eF.nd (cF (i:=5) eF.nd mX))) (aG (aHr 3 (aA 4) (aA 5)))) (aE8 3 (aD (aZ (i:=6) eF.nd (cT aQg aPq (bL (aB (dO (aB aH (aB aH aF))) aF)) #v[c])) (aD (cO Bl rfl (aX (aA 2)) (cR (i:=7) eF.nd) (aG (cO Bl rfl (aX (aA 7)) (cR (i:=8) eF.nd) (aD (aZ (i:=9) eF.nd (wN rfl T.max (aJ (dU (own:=["other"]) (cap:=[("times",6)]) (aC nP) aAg rfl rfl (λx h=>aV h) #v[4] rfl (vic (aX (bI aY bH (aA 3) (aA 8)))) ↑(aW (i:=0) (~~~["other","times"]) rfl (Dl rfl) (Dr rfl)) (bC ⋯) ↑(bI aY bH (bI aY bH (aA 1) (aA 0)) aH)) aM) aH)) (aG (aAb 6 (aA 8) (dO (aB (aA 9) (aB (cT dG fB (aA 9) (bI aY bH (aA 0) (aA 8))) aF))))))))) (aG (jU 6)))))))))) ?_;rintro _ R ⟨ls,ps,rfl,hb,n64,pl,no,q⟩;refine#[rfl,ps,ls.length,by rw[Ab],hb,n64,pl,no,λws wh=>?_];have e1:((ntU ls).map λ_=>([]:List U))=tab ls.length λ_=>[]:=by
  rw[Ba];unfold tab;rw[La,Dm];exact La ..
 refine#[nofun,λ_=>#[by rw[Ab];lia,?_]];rw[e1];refine bG (λl ρ=>∃(dn rst:List Pr)(a b:Sl),l=prU rst/\dn++rst=ps/\ρ=[.sh (.ls (ntU ls)),.sh (.ls (prU ps)),.sh (.ls (rwU ws)),.oo (llO (tab ls.length λm=>ntU (nD dn m))),a,b,.no,.no,.no,.no]) ?_ ?_ #[[],ps,_,_,rfl,rfl,rfl]
 rotate_left
 ·rintro u l ρ ⟨dn,rst,a,b,el,ed,rfl⟩ ih;cases rst with
  |nil=>cases el
  |cons p rst=>
   cases el;obtain⟨p1,p2⟩:=hb p (by rw[<-ed];simp);have dl:dn.length+1<=ps.length:=by rw[<-ed];simp
   have rl:=aVm (dn:=dn) (m:=p.1);refine#[rfl,_,rfl,p.1,p.1,_,rfl,by rw[zX];exact qQ p1,oO p1,by rw[Ab];lia,?_];refine ih _ #[dn++[p],rst,.sh (.n p.1),.sh (.n p.2),rfl,by rw[<-ed];simp,?_];show [_,_,_,Sl.oo (llO ((tab ls.length λm=>ntU (nD dn m)).set p.1 (ntU (nD dn p.1)++[.n p.2]))),_,_,_,_,_,_]=_;rw[zY];have e3:(λm=>if m=p.1 then ntU (nD dn p.1)++[U.n p.2]else ntU (nD dn m))=λm=>ntU (nD (dn++[p]) m):=funext λm=>by
    rw[aWt];by_cases e:m=p.1
    ·subst e;simp
    ·simp[e]
   rw[e3]
 rintro ρ ⟨dn,rst,a,b,el,ed,rfl⟩;obtain rfl:rst=[]:=Bf.mp el.symm;rw[Bk]at ed;subst ed;have ll:((tab ls.length λm=>ntU (nD dn m)).map U.ls)=tab ls.length λm=>U.ls (ntU (nD dn m)):=by unfold tab;rw[Ba];rfl
 refine#[_,rfl,?_];rw[ll];have e0:(Bi (((ntU ls).length:Nat):Int).toNat [U.tp [.n 0,.n 0]]).flatten=prU (Bi ls.length (0,0)):=by
  rw[Ck,Oz,Ab];show _=Zd (λp:Pr=>U.tp [.n p.1,.n p.2]) _;rw[Ov];rfl
 refine#[∅,by rw[Ab];lia,⋯,?_];show uJ.nx _ [.sh (.ls (ntU ls)),.sh (.ls (prU dn)),.sh (.ls (rwU ws)),.sh (.ls (tab ls.length λm=>U.ls (ntU (nD dn m)))),a,b,.ow (Bi (((ntU ls).length:Nat):Int).toNat [U.tp [.n 0,.n 0]]).flatten,.no,.no,.no];rw[e0];have ok:=wh.1;refine bG (λl ρ=>∃(ds rst:#v[f])(ts:List Pr)(b c d e:Sl),l=rwU rst/\ds++rst=ws/\Tm dn ls ds.flatten ts/\ρ=[.sh (.ls (ntU ls)),.sh (.ls (prU dn)),.sh (.ls (rwU ws)),.sh (.ls (tab ls.length λm=>U.ls (ntU (nD dn m)))),a,b,.ow (prU ts),c,d,e]) ?_ ?_ #[[],ws,_,_,_,_,_,rfl,rfl,Tm.start (by rw[Ef]),rfl]
 ·rintro ρ ⟨ds,rst,ts,b,c,d,e,el,ed,tm,rfl⟩;obtain rfl:rst=[]:=Bf.mp el.symm;rw[Bk]at ed;subst ed;exact q ts #[tm.len,λp hp=>tm.sys p (wh.2 p hp)]
 rintro u l ρ ⟨ds,rst,ts,b,c,d,e,el,ed,tm,rfl⟩ ih;cases rst with
 |nil=>cases el
 |cons wv rst=>
 cases el;have hi:ws[ds.length]? =some wv:=by rw[<-ed];simp
 have et:ws.take ds.length=ds:=by rw[<-ed];simp
 show iG (iC 8) _ _ (ntU wv) [.sh (.ls (ntU ls)),.sh (.ls (prU dn)),.sh (.ls (rwU ws)),.sh (.ls (tab ls.length λm=>U.ls (ntU (nD dn m)))),a,b,.ow (prU ts),.sh (.ls (ntU wv)),d,e];refine bG (λl ρ=>∃(d2 r2:List Nat)(ts:List Pr)(b d e:Sl),l=ntU r2/\d2++r2=wv/\Tm dn ls (ds.flatten++d2) ts/\ρ=[.sh (.ls (ntU ls)),.sh (.ls (prU dn)),.sh (.ls (rwU ws)),.sh (.ls (tab ls.length λm=>U.ls (ntU (nD dn m)))),a,b,.ow (prU ts),.sh (.ls (ntU wv)),d,e]) ?_ ?_ #[[],wv,ts,_,_,_,rfl,rfl,by rw[Bk];exact tm,rfl]
 ·rintro ρ ⟨d2,r2,ts,b,d,e,el,e2,tm,rfl⟩;obtain rfl:r2=[]:=Bf.mp el.symm;rw[Bk]at e2;subst e2;exact ih _ #[ds++[d2],rst,ts,_,_,_,_,rfl,by rw[<-ed];simp,by simpa using tm,rfl]
 rintro u l ρ ⟨d2,r2,ts,b0,d,e,el,e2,tm,rfl⟩ ih2;cases r2 with
 |nil=>cases el
 |cons p r2=>
 cases el;have hj:wv[d2.length]? =some p:=by rw[<-e2];simp
 have et2:wv.take d2.length=d2:=by rw[<-e2];simp
 have nd:=aPm ok.nodup hi hj;rw[et,et2]at nd;have pn:p<ls.length:=ok.below p (Ds.mpr #[wv,Ai hi,Ai hj]);have pre:∀q,(p,q)∈dn->q∈ds.flatten++d2:=λq m=>Bo _ (by have:=ok.lean _ wv hi p (Ai hj) q m;rwa [et]at this);have aw:∀q∈nD dn p,q<ls.length:=λq m=>(hb _ (aDr.mp m)).2;have al:=aVm (dn:=dn) (m:=p);refine#[_,bQ (oO pn),by rw[Ab];lia,dZ (B:=λq:Nat=>some (U.n ((ts.getD q (0,0)).2:Nat))) (λq hq k hk=>?_) ?_]
 ·exact#[_,bQ (xU (by rw[tm.len];exact aw q hq)),_,rfl,hk]
 rw[Bm,Dk];have fin:∀b:Nat,IsB dn (Tf ts) p b->Tm dn ls (ds.flatten++(d2++[p])) (ts.set p (b,b+Lf ls p)):=λb ib=>by
  rw[<-Cz];exact tm.step pn nd pre ib
 have go:∀b:Nat,IsB dn (Tf ts) p b->_:=λb ib=>ih2 [.sh (.ls (ntU ls)),.sh (.ls (prU dn)),.sh (.ls (rwU ws)),.sh (.ls (tab ls.length λm=>U.ls (ntU (nD dn m)))),a,b0,.ow ((prU ts).set p (.tp [.n b,.n (b+Lf ls p)])),.sh (.ls (ntU wv)),.sh (.n p),.sh (.n b)] #[d2++[p],r2,ts.set p (b,b+Lf ls p),b0,.sh (.n p),.sh (.n b),rfl,by rw[<-e2];simp,fin b ib,by rw[aX0];rfl];have ix:ixN (prU ts).length (p:Int)=some p:=by rw[Ab,tm.len];exact qQ pn
 refine#[_,aV4,λh0=>?_,λm hm hx=>?_]
 ·have h0:nD dn p=[]:=Bf.mp h0;exact#[_,bQ (aEj pn),p,p,rfl,ix,go 0 #[λq m=>(by have:=aDr.mpr m;rw[h0]at this;cases this),.inl rfl]]
 ·obtain⟨q,mq,rfl⟩:=Aj.mp hm;exact#[_,bQ (aEj pn),p,p,rfl,ix,go _ #[λq m=>#[_,rfl,by have:=hx _ (Aj.mpr #[q,aDr.mpr m,rfl]);lia],.inr #[q,aDr.mp mq,rfl]]]
def aZw(row:List Nat):mG (ntU row) (some 1) none=ntU (row.drop 1):=by
 unfold mG;cases row with
 |nil=>rfl
 |cons a t=>
  rw[show HT.sIx (ntU (a::t)).length 0 (some 1)=1 by rw[show(some (1:Int))=some ((1:Nat):Int)from rfl,HT.zV,Ab,Ao];lia,HT.aBe];rw[Ab,Ao,Nat.add_sub_cancel];simp only[Bj,List.drop_succ_cons,Rw];exact Fx (by simp)
theorem aWj:∀l m:List Nat,wW (ntU l) (ntU m)=prU (l.zip m)
 | [],_=>rfl
 |_::_,[]=>rfl
 |a::l,b::m=>Ab9 (U.tp [.n a,.n b]::·) (aWj l m)
def aIz:Fv:=λus R=>∃(ps:List Pr)(rs:#v[f]),us=[.ls (prU ps),.ls (rwU rs)]/\ps.length<=401/\rs.flatten.length<64/\R (.ow (prU (ps++bU rs)))
def rE:aQ ["pairs","rows","longer","row"] ["pairs","rows"] (aC tL):={}
def aQe(F:Fun K "with_rows" "with_rows" tL f fd)(T:Txt mg):↥1 f fd ["pairs","rows"] (spV aIz):=by
 refine vfn F rE (λae A outer s H E hr=>(aD (aZ (i:=2) rE.nd (dD (eG rfl) kZ T.list Gh (aJ (aA 0) aM))) (aD (cO Bl rfl (aX (aA 1)) (cR (i:=3) rE.nd) (aG (yI 2 (aUr rfl T.list T.zip (aJ (aR5 (aA 3) (wO aH) aE7) (aJ (aA 3) aM)))))) (aG (jU 2))))) ?_;rintro _ R ⟨ps,rs,rfl,pl,rl,q⟩;refine#[rfl,?_];refine bG (λl ρ=>∃(dn rst:#v[f])(a:Sl),l=rwU rst/\dn++rst=rs/\ρ=[.sh (.ls (prU ps)),.sh (.ls (rwU rs)),.ow (prU (ps++bU dn)),a]) ?_ ?_ #[[],rs,_,rfl,rfl,by show _=[_,_,Sl.ow (prU (ps++[])),_];rw[Bk];rfl]
 ·rintro ρ ⟨dn,rst,a,el,ed,rfl⟩;obtain rfl:rst=[]:=Bf.mp el.symm;rw[Bk]at ed;subst ed;exact q
 ·rintro u l ρ ⟨dn,rst,a,el,ed,rfl⟩ ih;cases rst with
  |nil=>cases el
  |cons p rst=>
   cases el;have sl:=(Ic (show p∈rs by rw[<-ed];simp)).length_le;have rd:=tY dn;have rd2:dn.flatten.length<=rs.flatten.length:=by rw[<-ed,Ny,Am];lia
   refine#[_,_,rfl,?_];show(mG (ntU p) (some 1) none).length<=(ntU p).length/\(prU (ps++bU dn)).length+(wW (mG (ntU p) (some 1) none) (ntU p)).length<10000/\uJ.nx _ [.sh (.ls (prU ps)),.sh (.ls (rwU rs)),.ow (prU (ps++bU dn)++wW (mG (ntU p) (some 1) none) (ntU p)),.sh (.ls (ntU p))];rw[aZw,aWj];refine#[by rw[Ab,Ab,Fs];lia,by rw[Ab,Ab,Am,Xr];lia,ih _ #[dn++[p],rst,.sh (.ls (ntU p)),rfl,by rw[<-ed];simp,?_]];have er:bU (dn++[p])=bU dn++(p.drop 1).zip p:=by simp[bU]
   rw[er, <-Cz,show prU (ps++bU dn++(p.drop 1).zip p)=prU (ps++bU dn)++prU ((p.drop 1).zip p)from Co]
def aOp:Fv:=λus R=>∃ts:List Pr,us=[.ls (prU ts)]/\ts.length<=1000/\∀m:Nat,aFg m ts->R (.sh (.n m))
abbrev aHz:List Str:=["times"]
def aG8:aQ ["times"] ["times"] (aC qZ):={}
def aTd(F:Fun K "last_end" "last_end" qZ f fd)(T:Txt mg):↥1 f fd ["times"] (spV aOp):=by
 refine vfn F aG8 (λae A outer s H E hr=>(aG (aU (wN rfl T.max (aJ (dU (own:=["begin","end"]) (cap:=[]) (aC qZ) aHz rfl rfl (λx h=>aV h) #v[4] rfl (vic (aX (aA 0))) ↑(xR rfl (fY (aW (i:=0) (~~~["begin","end"]) rfl (Dl rfl) (Dr rfl)) (fY (aW (i:=1) (~~~["begin","end"]) rfl (Dl rfl) (Dr rfl)) tX))) (aBp (is:=[0,1]) rfl ⋯) ↑(aA 1)) aM) aH)))) ?_;rintro _ R ⟨ts,rfl,tl,q⟩;refine#[rfl,by rw[Ab];lia,dZ (B:=λt:Pr=>some (U.n (t.2:Nat))) (λt ht k hk=>#[rfl,hk]) ?_];rw[Bm,Dk];refine#[_,aV4,λh0=>?_,λm hm hx=>?_]
 ·obtain rfl:ts=[]:=Bf.mp h0;exact q 0 #[.inl rfl,λ_ h=>nomatch h]
 ·obtain⟨t,mt,rfl⟩:=Aj.mp hm;exact q _ #[.inr #[t,mt,rfl],λt m=>by have:=hx _ (Aj.mpr #[t,m,rfl]);lia]
def aEn(P:An)(w:Bh)(CP:Addr)(j:U)(ps:List (List Tk))(hs:#v[f])(wt:List Pr)(sl:List Tk):U:=.ob CP pNm (aQj P w j ps hs wt sl)
def aCs{P:An}{w:Bh}{ps hs wt sl}(q:R (.sh (.ls (pcU ps)))):aBz "pieces" pNm (aQj P w j ps hs wt sl) R:=aAv (k:=1) q #v[4] rfl rfl
def aGa{P:An}{w:Bh}{ps hs wt sl}(q:R (.sh (.ls (rwU hs)))):aBz "hands" pNm (aQj P w j ps hs wt sl) R:=aAv (k:=2) q #v[4] rfl rfl
def aGb{P:An}{w:Bh}{ps hs wt sl}(q:R (.sh (.ls (prU wt)))):aBz "waits" pNm (aQj P w j ps hs wt sl) R:=aAv (k:=3) q #v[4] rfl rfl
abbrev lens(ps:List (List Tk)):List Nat:=ps.map Fm
structure GoodW(ls:List Nat)(hs:#v[f])(wt:List Pr):Prop where
 n64:ls.length<64
 sh:Shared hs ls.length
 h1:1<=hs.length
 h4:hs.length<=4
 wk:Below ls.length wt
 wl:wt.length<=400
 no:∀ws,Stuck (wt++bU hs) ls.length ws->∀v,v<ls.length->v∈ws.flatten
def aBd(h:Shared hs n):Below n (bU hs):=λp hp=>by
 obtain⟨i,j,row,h1,h2,h3⟩:=gM.mp (show(p.1,p.2)∈bU hs from hp);have k:∀v∈row,v<n:=λv hv=>By.mp (h.subset (Ds.mpr #[row,Ai h1,hv]));exact#[k _ (Ai h2),k _ (Ai h3)]
def GoodW.below{wt:List Pr}(g:GoodW ls hs wt):Below ls.length (wt++bU hs):=λp hp=>(Bd.mp hp).elim (g.wk p) (aBd g.sh p)
def GoodW.fl{wt:List Pr}(g:GoodW ls hs wt):hs.flatten.length=ls.length:=by
 have:=g.sh.length_eq
 rwa [Dm]at this
def aD8(P:An)(w:Bh)(CP:Addr):Fv:=λus R=>∃j ps hs wt sl,us=[aEn P w CP j ps hs wt sl]/\GoodW (lens ps) hs wt/\∀ts,Sys (wt++bU hs) (lens ps) ts->R (.ow (prU ts))
abbrev aDn:List Str:=["paper"]
def aB7:aQ ["paper"] ["paper"] (aC mU):={}
def aMz(F:Fun K "walk_times" "walk_times" mU f fd)(cQ:Cfl K CP pNm)(uT:⇑3 "times_of" ["lasts","pairs"] (spV aIy))(sJ:⇑1 "with_rows" ["pairs","rows"] (spV aIz))(T:Txt mg):↥4 f fd ["paper"] (spV (aD8 P w CP)):=by
 refine vfn F aB7 (λae A outer s H E hr=>(aG (aU (aL uT (hr.mono ⋯) rfl (aB (dU (own:=["piece"]) (cap:=[]) (aC mU) aDn rfl rfl (λx h=>aV h) #v[4] rfl (vic (aX (dX cQ (aA 0)))) ↑(aW (i:=0) (~~~["piece"]) rfl (Dl rfl) (Dr rfl)) (bC ⋯) ↑#v[c]) (aB (aL sJ (hr.mono ⋯) rfl (aB (dX cQ (aA 0)) (aB (dX cQ (aA 0)) aF))) aF)))))) ?_;rintro _ R ⟨j,ps,hs,wt,sl,rfl,g,q⟩;have pl:=g.n64;rw[Ab]at pl;have rl:=tY hs;have fl:=g.fl;rw[Ab]at fl;have wl:=g.wl;refine#[rfl,rfl,aCs #[by rw[Ab];lia,dZ (B:=λp:List Tk=>some (U.n (p.length:Nat))) (λp hp k hk=>?_) ?_]]
 ·show k (some (.n ((p.map tkU).length:Nat)));rw[Ab];exact hk
 rw[Bm,Dk, <-aEk];refine#[rfl,aGb #[rfl,aGa #[wt,hs,rfl,∅,∅,?_]]];exact#[lens ps,wt++bU hs,rfl,g.below,g.n64,by rw[Am];lia,g.no,q]
def aVy(P:An)(w:Bh)(CP:Addr):Fv:=λus R=>∃j ps hs wt sl,us=[aEn P w CP j ps hs wt sl]/\GoodW (lens ps) hs wt/\∀ts m,Sys (wt++bU hs) (lens ps) ts->aFg m ts->R (.sh (.n m))
def aHa:aQ ["paper"] ["paper"] (aC vA):={}
def aTj(F:Fun K "walk_end" "walk_end" vA f fd)(iY:⇑4 "walk_times" ["paper"] (spV (aD8 P w CP)))(uQ:⇑1 "last_end" ["times"] (spV aOp))(T:Txt mg):↥5 f fd ["paper"] (spV (aVy P w CP)):=by
 refine vfn F aHa (λae A outer s H E hr=>(aG (aU (aL uQ (hr.mono ⋯) rfl (aB (aL iY (hr.mono ⋯) rfl (aB (aA 0) aF)) aF))))) ?_;rintro _ R ⟨j,ps,hs,wt,sl,rfl,g,q⟩;refine#[rfl,j,ps,hs,wt,sl,rfl,g,λts sy=>#[ts,rfl,?_,λm hm=>q ts m sy hm]];have:=g.n64;rw[sy.len]
 lia
def aVw:Fv:=λus R=>∃ls hs wt,us=[.ls (ntU ls),.ls (prU wt),.ls (rwU hs)]/\GoodW ls hs wt/\∀ts m,Sys (wt++bU hs) ls ts->aFg m ts->R (.sh (.n m))
def aG9:aQ ["lasts","pairs","rows"] ["lasts","pairs","rows"] (aC uZ):={}
def aTg(F:Fun K "rows_end" "rows_end" uZ f fd)(uT:⇑3 "times_of" ["lasts","pairs"] (spV aIy))(sJ:⇑1 "with_rows" ["pairs","rows"] (spV aIz))(uQ:⇑1 "last_end" ["times"] (spV aOp))(jZ:⇑4 "are_shared_out" ["thing","many"] (spV aD7))(T:Txt mg):↥5 f fd ["lasts","pairs","rows"] (spV aVw):=by
 refine vfn F aG9 (λae A outer s H E hr=>(aD (cB (iM (jV (cI (cL (aL jZ (hr.mono ⋯) rfl (aB (aA 2) (aB #v[c] aF))))) (fK (bK (eO (huD hr)) dC (aO aK bF T.len Cf (aJ (aA 2) aM)) aH)))) (aG jT) bA) (aG (aU (aL uQ (hr.mono ⋯) rfl (aB (aL uT (hr.mono ⋯) rfl (aB (aA 0) (aB (aL sJ (hr.mono ⋯) rfl (aB (aA 1) (aB (aA 2) aF))) aF))) aF)))))) ?_;rintro _ R ⟨ls,hs,wt,rfl,g,q⟩;have pl:=g.n64;have rl:=tY hs;have fl:=g.fl;have wl:=g.wl;have h1:=g.h1;have h4:=g.h4;refine#[rfl,hs,ls.length,by rw[Ab],g.sh,g.n64,∅,?_];refine#[nofun,λ_=>#[trivial,trivial,λz=>?_,λ_=>?_]]
 ·have z:U.eq (.n ((rwU hs).length:Nat)) (.n ((0:Nat):Int))=true:=z;rw[nH,Ab]at z;have:=Ab3 z
  lia
 refine#[wt,hs,rfl,∅,∅,?_];refine#[ls,wt++bU hs,rfl,g.below,g.n64,by rw[Am];lia,g.no,λts sy=>#[ts,rfl,?_,λm hm=>q ts m sy hm]];rw[sy.len]
 lia
structure aKd(ns:List Int)(r:Int)(ps:List (List Tk))(hs:#v[f])(wt:List Pr):Prop where
 pl:ps.length<=8
 pg:∀p∈ps,p≠[]/\p.length<=6/\∀q∈p,q∈spS ns r.toNat
 sh:Shared hs ps.length
 h1:1<=hs.length
 h4:hs.length<=4
 wk:Below ps.length wt
 wl:wt.length<=6
theorem yG{S:List Tk}:∀{xs:List U},(∀x∈xs,∃q∈S,x=tkU q)->∃p:List Tk,xs=p.map tkU/\∀q∈p,q∈S
 | [],_=>#[[],rfl,nofun]
 |x::xs,h=>by
  obtain⟨q,hq,rfl⟩:=h x Ah;obtain⟨p,rfl,hp⟩:=yG (xs:=xs) λy hy=>h y (Af _ hy);exact#[q::p,rfl,λz hz=>(Ax.mp hz).elim (λe=>by rw[e];exact hq) (hp z)]
theorem aHc(h:row'.Perm (p::row)):∀{hs:#v[f]}{i:Nat},hs[i]? =some row->(hs.set i row').flatten.Perm (p::hs.flatten)
 | [],_,e=>by cases e
 |a::hs,0,e=>by
  cases e;exact h.append_right hs.flatten
 |a::hs,i+1,e=>((aHc h (hs:=hs) e).append_left a).trans Mm
def pk{x y n:Nat}{c:Bool}(hx:x<n)(hy:y<n):∃p:Pr,p.1<n/\p.2<n/\atI [U.tp [.n (if(y:Int)>x then(y:Int)else x),.n (if(y:Int)<x then(y:Int)else x)],.tp [.n x,.n y]] (if c then 1 else 0)=some (.tp [.n p.1,.n p.2]):=by
 cases c
 ·refine#[(if y>x then y else x,if y<x then y else x),?_,?_,?_]
  ·show(if y>x then y else x)<n;split<;>lia
  ·show(if y<x then y else x)<n;split<;>lia
  ·have e1:(((if y>x then y else x:Nat)):Int)=if(y:Int)>x then(y:Int)else x:=by split<;>split<;>lia
   have e2:(((if y<x then y else x:Nat)):Int)=if(y:Int)<x then(y:Int)else x:=by split<;>split<;>lia
   show some _=some (U.tp [.n ((if y>x then y else x:Nat):Int),.n ((if y<x then y else x:Nat):Int)]);rw[e1,e2]
 ·exact#[(x,y),hx,hy,rfl]
def aOr:Fv:=λus R=>∃ns rs ys r,us=[wD ns rs ys r,.wl]/\aJ6 ns rs ys r/\∀ps hs wt,aKd ns r ps hs wt->R (.sh (.tp [.ls (pcU ps),.ls (rwU hs),.ls (prU wt)]))
abbrev vM:List Str:=["_law_world_here","_law_tape_here","_law_spots_here","_law_pieces","_law_k","_law_hands","_law_p","_law_row","_law_waits","_law_q"]
def bW:aQ ["_law_world_here","_law_tape_here","_law_spots_here","_law_pieces","_law_k","_law_hands","_law_p","_law_row","_law_waits","_law_q"] ["_law_world_here","_law_tape_here"] (aC jM):={}
def aP4(F:Fun K "_law_loose" "_law_loose" jM f fd)(c__law_draw:⇑1 "_law_draw" ["_law_tape_here","_law_many"] (spV aF6))(qO:⇑2 "_law_spots" ["_law_world_here"] (spV aIw))(T:Txt mg):↥3 f fd ["_law_world_here","_law_tape_here"] (spV aOr):=by
 refine vfn F bW (λae A outer s H E hr=>(aD (aZ (i:=2) bW.nd (aL qO (hr.mono ⋯) rfl (aB (aA 0) aF))) (aD (aZ (i:=3) bW.nd (bL aF)) (aD (cO Bl rfl (eY T.range (aJ (cT pD aGv #v[d] (dD pP aAp T.int Sq (aJ (iB (lU (huD hr)) dC (aA 2) (bL aF)) aM))) aM)) (cR (i:=4) bW.nd) (aG (vK 3 (dU (own:=["_law_j"]) (cap:=[("_law_tape_here",1),("_law_spots_here",2)]) (aC jM) vM rfl rfl (λx h=>aV h) #v[4] rfl (vic (eY T.range (aJ (cT dG fB aH #v[d]) aM))) ↑(aW (i:=0) (~~~["_law_j","_law_tape_here","_law_spots_here"]) rfl (Dl rfl) (Dr rfl)) (bC ⋯) ↑(bI aY bH (aA 2) (aL c__law_draw (hr.mono ⋯) rfl (aB (aA 1) (aB (aO aK bF T.len Cf (aJ (aA 2) aM)) aF)))))))) (aD (aR9 (i:=5) (y:="_law_k") bW.nd (aC jM) vM rfl rfl (λx h=>aV h) #v[4] rfl (vic (eY T.range (aJ (cT dG fB aH #v[d]) aM))) ↑(aW (i:=0) (~~~["_law_k"]) rfl (Dl rfl) (Dr rfl)) (bC ⋯) (λcl C s2 H2 fp=>aEo dN)) (aD (cO Bl rfl (eY T.range (aJ (aO aK bF T.len Cf (aJ (aA 3) aM)) aM)) (cR (i:=6) bW.nd) (aSa 5 7 bW.nd (aL c__law_draw (hr.mono ⋯) rfl (aB (aA 1) (aB (aUo T.len (aA 5)) aF))) (cT sY cU (aO aK bF T.len Cf (aJ (aA 7) aM)) (cT pD aGv #v[d] (dD pP aAp T.int Sq (aJ (iB (eO (huD hr)) dC #v[d] aH) aM)))) (aA 6) bA)) (aE8 5 (aD (aZ (i:=8) bW.nd (bL aF)) (aD (cO Bl rfl (eY T.range (aJ (cT pD aGv #v[d] (dD pP aAp T.int Sq (aJ (iB lL cU (aO aK bF T.len Cf (aJ (aA 3) aM)) aH) aM))) aM)) (cR (i:=4) bW.nd) (aD (aZ (i:=6) bW.nd (aL c__law_draw (hr.mono ⋯) rfl (aB (aA 1) (aB (aO aK bF T.len Cf (aJ (aA 3) aM)) aF)))) (aD (aZ (i:=9) bW.nd (aL c__law_draw (hr.mono ⋯) rfl (aB (aA 1) (aB (aO aK bF T.len Cf (aJ (aA 3) aM)) aF)))) (aG (cB (iM (jV (bK (lU (huD hr)) dC (aA 6) (aA 9)) (fK (bK (eO (huD hr)) dC #v[d] aH)))) (aG (vK 8 (bI aY bH (bL (aB (dO (aB (aO (aLr rfl) aVn T.max Yv (aJ (aA 6) (aJ (aA 9) aM))) (aB (aO (aLs rfl) aVn T.min boot_min (aJ (aA 6) (aJ (aA 9) aM))) aF))) (aB (dO (aB (aA 6) (aB (aA 9) aF))) aF))) (dD pP aAp T.int Sq (aJ (iB (eO (huD hr)) dC #v[d] aH) aM))))) bA))))) (fU 8 (fU 3 (aG (aU (dO (aB (aA 3) (aB (aA 5) (aB (aA 8) aF))))))))))))))))) ?_;rintro _ R ⟨ns,rs,ys,r,rfl,g,q⟩;have l40:=aAl g.gs;refine#[rfl,ns,rs,ys,r,rfl,g,l40,λs hs=>?_];subst hs;have sl:=zW g.gs (show r<=12 by have:=g.r5;lia);rw[aBj];obtain⟨S,hS⟩:∃S,S=spS ns r.toNat:=#[_,rfl];rw[<-hS]at sl⊢;refine#[9,rfl,⋯,⋯,λm m0 m9=>?_];have kb:∀c:Bool,0<=m*(if c then 1 else 0)/\m*(if c then 1 else 0)<9/\(0<m*(if c then 1 else 0)->c=true):=λc=>by cases c<;>simp<;>lia
 obtain⟨k0,k9,kS⟩:=kb (!(U.eq (.ls (S.map tkU)) (.ls [])));have kS:0<m*(if(!(U.eq (.ls (S.map tkU)) (.ls [])))then 1 else 0)->S≠[]:=λh e=>by
  have:=kS h;rw[e]at this;cases this
 refine#[zZ 37 _,trivial,.inl #[∅,∅],?_];show-(2 ^ 62)<=m*(if(!(U.eq (.ls (S.map tkU)) (.ls [])))then 1 else 0)/\m*(if(!(U.eq (.ls (S.map tkU)) (.ls [])))then 1 else 0)<2 ^ 62/\iG (iC 4) _ _ (gU 0 (m*(if(!(U.eq (.ls (S.map tkU)) (.ls [])))then 1 else 0)).toNat) [.sh (wD ns rs ys r),.sh .wl,.ow (S.map tkU),.ow [],.no,.no,.no,.no,.no,.no];generalize m*(if(!(U.eq (.ls (S.map tkU)) (.ls [])))then 1 else 0)=k at*;refine#[∅,∅,?_];refine bG (λl ρ=>∃(ps:List (List Tk))(a:Sl),l.length+ps.length=k.toNat/\(∀p∈ps,p≠[]/\p.length<=6/\∀q∈p,q∈spS ns r.toNat)/\ρ=[.sh (wD ns rs ys r),.sh .wl,.ow (S.map tkU),.ow (pcU ps),a,.no,.no,.no,.no,.no]) ?_ ?_ #[[],_,by rw[cM];rfl,nofun,rfl]
 rotate_left
 ·rintro u l ρ ⟨ps,a,hl,pg,rfl⟩ ih;rw[Ao]at hl;have Sn:=kS ∅;have S0:=Eg.mpr Sn;refine#[by rw[Ab];lia,6,rfl,⋯,⋯,λj j0 j6=>?_];refine#[∅,∅,by rw[cM];lia,?_];refine jB (λu=>∃q∈S,u=tkU q) (λu hu k hk=>?_) λxs xl hx=>?_
  ·refine#[_,rfl,by rw[Ab];lia,by rw[Ab];lia,λi i0 i1=>?_];obtain⟨u,hu,e⟩:=sG i0 i1;obtain⟨q,hq,rfl⟩:=Aj.mp hu;exact#[_,e,hk _ #[q,hq,rfl]]
  ·obtain⟨p,rfl,hp⟩:=yG hx;rw[cM,Ab]at xl;refine ih _ #[ps++[p],.sh u,by rw[Am];simp;lia,λy hy=>?_,?_]
   ·rcases Bd.mp hy with hy|hy
    ·exact pg y hy
    ·rw[Ap.mp hy];exact#[λe=>by rw[e]at xl;simp at xl;lia,∅,λq hq=>by rw[<-hS];exact hp q hq]
   ·rw[show pcU (ps++[p])=pcU ps++[.ls (p.map tkU)]from Co];rfl
 rintro ρ ⟨ps,a,hl,pg,rfl⟩;rw[My,Kf]at hl;have p8:ps.length<=8:=by lia
 refine#[4,rfl,⋯,⋯,λh h0 h4=>?_];refine#[∅,∅,by rw[cM];lia,?_];have e1:((gU 0 (1+h).toNat).map λ_=>([]:List U))=(Bi (1+h).toNat []).map ntU:=by
  rw[La,cM,Ov];rfl
 rw[e1];refine#[by rw[Ab];lia,by rw[Ab];lia,?_];show iG (iC 6) _ _ (gU 0 (((pcU ps).length:Nat):Int).toNat) [.sh (wD ns rs ys r),.sh .wl,.ow (S.map tkU),.ow (pcU ps),a,.oo (llO ((Bi (1+h).toNat []).map ntU)),.no,.no,.no,.no];rw[Ck,Ab,pZ];refine bG (λl ρ=>∃(dn rst:List Nat)(hs:#v[f])(b:Sl),l=ntU rst/\dn++rst=Bq ps.length/\hs.length=(1+h).toNat/\hs.flatten.Perm dn/\ρ=[.sh (wD ns rs ys r),.sh .wl,.ow (S.map tkU),.ow (pcU ps),a,.oo (llO (hs.map ntU)),b,.no,.no,.no]) ?_ ?_ #[[],Bq ps.length,Bi (1+h).toNat [],_,rfl,rfl,by rw[Ef],by simp,rfl]
 rotate_left
 ·rintro u l ρ ⟨dn,rst,hs,b,el,ed,hl,hp,rfl⟩ ih;cases rst with
  |nil=>cases el
  |cons p rst=>
  cases el;have dl:dn.length<ps.length:=by
   have:=Ab9 Fm ed;simp at this
   lia
  refine#[_,rfl,by show 7<10;decide,_,rfl,?_];refine#[_,rfl,by rw[Ab];lia,by rw[Ab];lia,λi i0 i1=>?_];rw[Ab]at i1;obtain⟨i,rfl⟩:=Fp i0;have i1:i<hs.length:=by lia
  have hi:hs[i]? =some hs[i]:=Ag i1;generalize hs[i]=row at hi;have rl:row.length<=dn.length:=by
   have:=(Ic (Ai hi)).length_le;rw[hp.length_eq]at this;exact this
  refine#[i,i,ntU row,rfl,by rw[Ab];exact qQ i1,by rw[Bg,hi];rfl,by rw[Ab];lia,?_];refine#[2,rfl,⋯,⋯,λd d0 d2=>#[3,rfl,⋯,⋯,λe e0 e3=>#[trivial,trivial,.inl #[∅,∅],?_]]];have kz:∀c:Bool,∃k:Nat,k<=row.length/\(((ntU row).length:Nat)-d*(if c then 1 else 0)=(k:Int)∨(((ntU row).length:Nat)-d*(if c then 1 else 0)= -1/\ntU row=[])):=λc=>by
   rw[Ab];have dc:d*(if c then 1 else 0)=0∨d*(if c then 1 else 0)=1:=by cases c<;>simp<;>lia
   rcases dc with e|e
   ·exact#[row.length,Ak _,.inl (by rw[e];lia)]
   ·by_cases r0:row=[]
    ·exact#[0,Bp _,.inr #[by rw[e,r0];rfl,by rw[r0];rfl]]
    ·have:=Eg.mpr r0;exact#[row.length-1,∅,.inl (by rw[e];lia)]
  obtain⟨k,hk,hz⟩:=kz (U.eq (.n e) (.n 0));refine#[_,k,rfl,by rw[Ab];exact hk,hz,trivial,ih _ #[dn++[p],rst,hs.set i (row.take k++p::row.drop k),.sh (.n p),rfl,by rw[<-ed];simp,by rw[Cg];exact hl,?_,?_]]
  ·refine(aHc (by have:=Mm (a:=p) (l₁:=row.take k) (l₂:=row.drop k);rwa [Gb]at this) hi).trans ((hp.cons p).trans ?_);exact(List.perm_append_singleton p dn).symm
  ·rw[Ua,show ntU (row.take k++p::row.drop k)=(ntU row).take k++ .n p::(ntU row).drop k by rw[<-Su, <-Sw];simp];rfl
 rintro ρ ⟨dn,rst,hs,b,el,ed,hl,hp,rfl⟩;obtain rfl:rst=[]:=Bf.mp el.symm;rw[Bk]at ed;subst ed;refine#[_,rfl,?_];rw[show(hs.map ntU).map U.ls=rwU hs by rw[Ba];rfl];refine#[7,rfl,⋯,⋯,λm m0 m7=>#[.inl #[∅,∅],?_]];have kb:∀c:Bool,0<=m*(if c then 1 else 0)/\m*(if c then 1 else 0)<7/\(0<m*(if c then 1 else 0)->c=true):=λc=>by cases c<;>simp<;>lia
 obtain⟨k0,k7,kS⟩:=kb (decide ((1:Int)<((pcU ps).length:Nat)));have kS:0<m*(if decide ((1:Int)<((pcU ps).length:Nat))then 1 else 0)->1<ps.length:=λh=>by
  have:=Ab3 (kS h);rw[Ab]at this
  lia
 show-(2 ^ 62)<=m*(if decide ((1:Int)<((pcU ps).length:Nat))then 1 else 0)/\m*(if decide ((1:Int)<((pcU ps).length:Nat))then 1 else 0)<2 ^ 62/\iG (iC 4) _ _ (gU 0 (m*(if decide ((1:Int)<((pcU ps).length:Nat))then 1 else 0)).toNat) [.sh (wD ns rs ys r),.sh .wl,.ow (S.map tkU),.ow (pcU ps),a,.sh (.ls (rwU hs)),b,.no,.ow [],.no];generalize m*(if decide ((1:Int)<((pcU ps).length:Nat))then 1 else 0)=k at*;refine#[∅,∅,?_];refine bG (λl ρ=>∃(wt:List Pr)(a b c:Sl),l.length+wt.length<=k.toNat/\Below ps.length wt/\ρ=[.sh (wD ns rs ys r),.sh .wl,.ow (S.map tkU),.ow (pcU ps),a,.sh (.ls (rwU hs)),b,.no,.ow (prU wt),c]) ?_ ?_ #[[],_,_,_,by rw[cM];exact Ak _,nofun,rfl]
 ·rintro ρ ⟨wt,a,b,c,hw,bw,rfl⟩;rw[My,Kf]at hw;exact q ps hs wt #[p8,pg,hp,∅,∅,bw,∅]
 ·rintro u l ρ ⟨wt,a,b,c,hw,bw,rfl⟩ ih;rw[Ao]at hw;have p1:=kS ∅;refine#[_,rfl,by rw[Ab];lia,by rw[Ab];lia,λx x0 x1=>?_];refine#[_,rfl,by rw[Ab];lia,by rw[Ab];lia,λy y0 y1=>?_];rw[Ab]at x1 y1;obtain⟨x,rfl⟩:=Fp x0;obtain⟨y,rfl⟩:=Fp y0;have x1:x<ps.length:=by lia
  have y1:y<ps.length:=by lia
  refine#[trivial,trivial,λz=>#[λ_=>?_,nofun],λz=>#[8,rfl,⋯,⋯,λe e0 e8=>#[trivial,trivial,λz2=>?_,λz2=>ih _ #[wt,.sh u,.sh (.n x),.sh (.n y),∅,bw,rfl]]]]
  all_goals
   refine#[by rw[Ab];lia,6,rfl,⋯,⋯,λt t0 t6=>#[trivial,trivial,?_]];obtain⟨p,h1,h2,e⟩:=pk (c:=U.eq (.n t) (.n 0)) x1 y1;refine#[_,e,ih _ #[wt++[p],.sh u,.sh (.n x),.sh (.n y),by rw[Am,Dw];lia,λo ho=>?_,?_]]
   ·rcases Bd.mp ho with ho|ho
    ·exact bw o ho
    ·rw[Ap.mp ho];exact#[h1,h2]
   ·rw[show prU (wt++[p])=prU wt++[.tp [.n p.1,.n p.2]]from Co];rfl
section
variable {P:An}{w:Bh}{K:Ad}{mg:Str->#v[10]}{base:Heap}{f C:Addr}{fd:Br}{N:Cn}{d:Nat}{CG CJ CP:Addr}
def Lp(ls:List Nat)(p:Nat):Nat:=ls.getD p 1
def aWn(h:∀x∈ls,0<x)(p:Nat):0<Lp ls p:=by
 unfold Lp;rw[Cc];cases e:ls[p]? with
 |none=>decide
 |some x=>exact h x (Ai e)
def aXe(h:i<l.length):(ntU l)[i]? =some (.n (Lp l i)):=by
 unfold Lp;rw[Bg,Cc,Ag h];rfl
def tmF(L:Nat->Nat)(E:Nat->Option Nat):Int->Option U:=λi=>if i<0 then none else(E i.toNat).map λe:Nat=> .tp [.n ((e:Int)-L i.toNat),.n e]
section
variable {L:Nat->Nat}{E:Nat->Option Nat}{t p e:Nat}{A:List Nat}
def yH:tmF L E (p:Int)=(E p).map λe:Nat=> .tp [.n ((e:Int)-L p),.n e]:=by
 unfold tmF;rw[Ab0 ∅,Ck]
def qH(h:E p=some e):tmF L E (p:Int)=some (.tp [.n ((e:Int)-L p),.n e]):=by rw[yH,h];rfl
def aE4{i:Int}(h:tmF L E i=some u):∃p e:Nat,i=p/\E p=some e/\u=.tp [.n ((e:Int)-L p),.n e]:=by
 by_cases n:i<0
 ·unfold tmF at h;rw[Ab1 n]at h;cases h
 ·obtain⟨p,rfl⟩:=Fp (show 0<=i by lia);rw[yH]at h;obtain⟨e,h1,h2⟩:=Jw.mp h;exact#[p,e,rfl,h1,h2.symm]
def aUk(h:E p=none)(m:p∉A):(λz=>if z=(p:Int)then some (U.tp [.n t,.n ((t:Int)+L p)])else tmF L (begun L E t A) z)=tmF L (begun L E t (A++[p])):=funext λz=>by
 by_cases e:z=(p:Int)
 ·subst e;rw[Ab1 rfl,qH (jY h (by simp))];congr 3
  ·congr 1
   lia
 ·rw[Ab0 e];by_cases n:z<0
  ·unfold tmF;rw[Ab1 n,Ab1 n]
  ·obtain⟨q,rfl⟩:=Fp (show 0<=z by lia);have ne:q≠p:=λx=>e (by rw[x]);show tmF L _ (q:Int)=tmF L _ (q:Int);rw[yH,yH];congr 1;unfold begun;cases E q with
   |some _=>rfl
   |none=>simp[ne]
end
theorem sum_set:∀{l:List Nat}{i k:Nat},l[i]? =some k->(l.set i (k+1)).sum=l.sum+1
 | [],_,_,h=>by cases h
 |a::l,0,_,h=>by
  cases h;rw[List.set_cons_zero,Fj,Fj]
  lia
 |a::l,i+1,k,h=>by
  rw[List.set_cons_succ,Fj,Fj,sum_set (l:=l) h]
  lia
theorem aJu:∀{ats:List Nat}{rs:#v[f]},ats.length=rs.length->(∀(h:Nat) row k,rs[h]? =some row->ats[h]? =some k->k<=row.length)->ats.sum<=rs.flatten.length
 | [],_,_,_=>Bp _
 |k::ats,[],h,_=>by cases h
 |k::ats,row::rs,h,c=>by
  have h1:=c 0 row k rfl rfl;have h2:=aJu (ats:=ats) (rs:=rs) (by simpa using h) λi r j a b=>c (i+1) r j a b;rw[Fj,Dt,Am]
  lia
def aL3{l:List U}(e:u::l=(iD (rwU rs)).drop h):∃row,rs[h]? =some row/\u=.tp [.n h,.ls (ntU row)]/\l=(iD (rwU rs)).drop (h+1)/\h<rs.length:=by
 have hlt:h<(iD (rwU rs)).length:=by
  have:=Ab9 Fm e;simp at this
  lia
 have hr:h<rs.length:=by simpa[iD]using hlt
 rw[Ha hlt]at e;cases e;refine#[rs[h],Ag hr,?_,rfl,hr];simp[iD]
def aQh{b:Bool}{K:Sl->Prop}{X cond:Prop}(key:∀fr:Bool,(fr=true↔cond)->K (.sh (.b fr)))(h1:b=true->cond)(h2:b=false->(∀fr:Bool,(fr=true↔cond)->K (.sh (.b fr)))->X):(b=true->K #v[y])/\(b=false->X):=#[λz=>key true #[λ_=>h1 z,λ_=>rfl],λz=>h2 z key]
theorem aI0:∀l:List Pr,l.filterMap (λx=>if p x=true then some (U.n (x.2:Nat))else none)=ntU ((l.filter p).map (·.2))
 | []=>rfl
 |v::l=>by
  by_cases h:p v=true
  ·rw[Hi (by rw[Ab1 h]),Js h,aI0 l];rfl
  ·rw[Hj (by rw[Ab0 h]),Jt h,aI0 l]
def endI(t:Nat):U->Option Int
 |.tp [_,.v (.int e)]=>if(t:Int)<e then some e else none
 |_=>none
theorem aV5:∀l:List Int,U.tts (l.map U.n)
 | []=>trivial
 |_::l=>#[trivial,aV5 l]
def aS3{G:List Pr}{E:Nat->Option Nat}{L:Nat->Nat}(hL:∀p,0<L p)(hb:Below ls.length G)(sE:∀p e,E p=some e->∃b,e=b+L p/\IsB G E p b)(all:∀p,p<ls.length->E p≠none):∀ws,Stuck G ls.length ws->∀v,v<ls.length->v∈ws.flatten:=by
 intro ws st v hv;apply Dn;intro hn;cases e:E v with
 |none=>exact all v hv e
 |some x=>
  refine aF2 hL sE (λx=>x<ls.length/\x∉ws.flatten) (λp hp=>?_) x v e #[hv,hn];obtain⟨m,h1,h2⟩:=st p hp.1 hp.2;exact#[m,h1,(hb _ h1).2,h2]
structure GoodC(ls:List Nat)(hs:#v[f])(wt:List Pr):Prop where
 n64:ls.length<64
 sh:Shared hs ls.length
 h4:hs.length<=4
 wk:Below ls.length wt
 wl:wt.length<=400
 ps:∀x∈ls,0<x/\x<=1000
def NoR(ls:List Nat)(hs:#v[f])(wt:List Pr):Prop:=∀ws,Stuck (wt++bU hs) ls.length ws->∀v,v<ls.length->v∈ws.flatten
def aOk:Fv:=λus R=>∃ls wt hs,us=[.ls (ntU ls),.ls (prU wt),.ls (rwU hs)]/\GoodC ls hs wt/\R (.sh .no)/\(NoR ls hs wt->∀l,R (.ow l))
abbrev mF:List Str:=["_law_lasts","_law_pairs","_law_rows","_law_at","_law_times","_law_now","_law_hand","_law_row","_law_free","_law_piece"]
def cW:aQ ["_law_lasts","_law_pairs","_law_rows","_law_at","_law_times","_law_now","_law_hand","_law_row","_law_free","_law_piece"] ["_law_lasts","_law_pairs","_law_rows"] (aC fG):={}
def aPv(F:Fun K "_law_clock" "_law_clock" fG f fd)(T:Txt mg):↥1 f fd ["_law_lasts","_law_pairs","_law_rows"] (spV aOk):=by
 refine vfn F cW (λae A outer s H E hr=>(aD (aR8 (i:=3) (own:=["_law_row"]) (cap:=[]) cW.nd (aC fG) mF rfl rfl (λx h=>aV h) #v[4] rfl (vic (aX (aA 2))) ↑(aW (i:=0) (~~~["_law_row"]) rfl (Dl rfl) (Dr rfl)) (bC ⋯) (λcl C s2 H2 fp=>aH)) (aD (aZ (i:=4) cW.nd aUt) (aD (aZ (i:=5) cW.nd aH) (aD (aHs Bl (aAa (aA 5)) (aD (cO Bl rfl (aE6 T.enumerate (aB (aA 2) aF)) (rJ rfl (cF (i:=6) cW.nd (cF (i:=7) cW.nd mX))) (aD (aZ (i:=8) cW.nd (bCa (iB (eO (huD hr)) dC (bI aY bH (aA 3) (aA 6)) aH) (lZ (iB aA7 cU (bI aY bH (aR4 hr (aA 4) (bI aY bH (aA 7) (cT sY cU (bI aY bH (aA 3) (aA 6)) aH))) aH) (aA 5))))) (aG (cB (iM (aSd (cL (aA 8)) (aLg (bK aGx cU (bI aY bH (aA 3) (aA 6)) (aO aK bF T.len Cf (aJ (aA 7) aM)))))) (aD (aZ (i:=9) cW.nd (bI aY bH (aA 7) (bI aY bH (aA 3) (aA 6)))) (aG (cB (bK (eO (huD hr)) dC (aE5 (own:=["_law_p","_law_q"]) (cap:=[("_law_times",4),("_law_now",5),("_law_piece",9)]) (aC fG) mF rfl rfl (λx h=>aV h) #v[4] rfl (vic (aX (aA 1))) ↑(xR rfl (fY (aW (i:=0) (~~~["_law_p","_law_q","_law_times","_law_now","_law_piece"]) rfl (Dl rfl) (Dr rfl)) (fY (aW (i:=1) (~~~["_law_p","_law_q","_law_times","_law_now","_law_piece"]) rfl (Dl rfl) (Dr rfl)) tX))) (aBp (is:=[0,1]) rfl ⋯) ↑(iM (aSd (bK (eO (huD hr)) dC (aA 0) (aA 4)) (aLg (iM (jV (aY3 hr (aA 1) (aA 2)) (fK (bK lL cU (bI aY bH (aR4 hr (aA 2) (aA 1)) aH) (aA 3)))))))) ↑(aA 1)) (bL aF)) (aD (aUv 4 hr (aA 9) (dO (aB (aA 5) (aB (cT dG fB (aA 5) (bI aY bH (aA 0) (aA 9))) aF)))) (aG (aAb 3 (aA 6) (cT dG fB (bI aY bH (aA 3) (aA 6)) aH)))) bA))) bA)))) (aG (aZ (i:=5) cW.nd (aUs rfl T.min (aJ (aY6 (P:=P) (w:=w) 4 (aE5 (own:=["_law_pair"]) (cap:=[("_law_now",5)]) (aC fG) mF rfl rfl (λx h=>aV h) #v[4] rfl (vic (aLe (P:=P) (w:=w) rfl rfl (aA 4))) ↑(aW (i:=0) (~~~["_law_pair","_law_now"]) rfl (Dl rfl) (Dr rfl)) (bC ⋯) ↑(bK lL cU #v[u] (aA 1)) ↑#v[u])) aM) tO))))) (aD (cB (bK aGx cU (aR1 T.len (aA 4)) #v[c]) (aG (aU tO)) bA) (aG (aU (dU (own:=["_law_piece"]) (cap:=[("_law_times",4)]) (aC fG) mF rfl rfl (λx h=>aV h) #v[4] rfl (vic (eY T.range (aJ #v[c] aM))) ↑(aW (i:=0) (~~~["_law_piece","_law_times"]) rfl (Dl rfl) (Dr rfl)) (bC ⋯) ↑(aR4 hr (aA 1) (aA 0))))))))))) ?_;rintro _ R ⟨ls,wt,hs,rfl,g,q0,q⟩;have n64:=g.n64;have h4:=g.h4;have hL:=aWn λx hx=>(g.ps x hx).1;have hb:Below ls.length (wt++bU hs):=λp hp=>(Bd.mp hp).elim (g.wk p) (aBd g.sh p);have nd:hs.flatten.Nodup:=g.sh.nodup_iff.mpr Gw;have low:∀p∈hs.flatten,p<ls.length:=λp hp=>By.mp (g.sh.subset hp);have cov:∀p,p<ls.length->p∈hs.flatten:=λp hp=>g.sh.symm.subset (By.mpr hp);have fl:hs.flatten.length=ls.length:=by have:=g.sh.length_eq;rwa [Dm]at this
 refine#[rfl,by rw[Ab];lia,dZ (B:=λ_:List Nat=>some (U.n 0)) (λrow _ k hk=>hk) ?_];rw[Bm,Dk,La];have ez:Bi hs.length (U.n 0)=ntU (Bi hs.length 0):=by
  show _=Zd (λn:Nat=>U.n n) _;rw[Ov];rfl
 rw[ez];have cur0:Cur hs (Bi hs.length 0) (λ_=>none):=by
  refine#[by rw[Ef],λh row k g1 g2=>?_,λh row k g1 g2 j q g3=>?_]
  ·have:=Sj (Ai g2)
   lia
  ·have:=Sj (Ai g2);exact#[λz=>Ab2 rfl z,λz=>by lia]
 have e0:(λ_=>none:Int->Option U)=tmF (Lp ls) λ_=>none:=funext λz=>by unfold tmF;split<;>rfl
 refine#[λm ρ=>∃(ats:List Nat)(E:Nat->Option Nat)(s5 a b c d:Sl),ρ=[.sh (.ls (ntU ls)),.sh (.ls (prU wt)),.sh (.ls (rwU hs)),.ow (ntU ats),.oo (ndO (tmF (Lp ls) E) ats.sum),s5,a,b,c,d]/\Cur hs ats E/\((∃t:Nat,s5=.sh (.n t)/\aLh ls.length (wt++bU hs) (Lp ls) E t/\m=left ls.length E t+1)∨(s5=.sh .no/\m=0/\(∀p e,E p=some e->p<ls.length)/\∀p e,E p=some e->∃b,e=b+Lp ls p/\IsB (wt++bU hs) E p b)),#[_,Bi hs.length 0,λ_=>none,.sh (.n 0),_,_,_,_,by rw[<-e0,show(Bi hs.length 0).sum=0 by simp];rfl,cur0,.inl #[0,rfl,aIk,rfl]],?_];rintro m ρ ⟨ats,E,s5,a,b,c,d,rfl,cur,alt⟩;rcases alt with ⟨t,rfl,ci,rfl⟩|⟨rfl,rfl,dom,sys⟩
 ·refine#[λ_=>?_,nofun];show iG (aLd [6,7]) _ _ (iD (rwU hs)) [.sh (.ls (ntU ls)),.sh (.ls (prU wt)),.sh (.ls (rwU hs)),.ow (ntU ats),.oo (ndO (tmF (Lp ls) E) ats.sum),.sh (.n t),a,b,c,d];refine bG (λl ρ=>∃(h:Nat)(A ats:List Nat)(a b c d:Sl),l=(iD (rwU hs)).drop h/\h<=hs.length/\HSt ls.length (wt++bU hs) (Lp ls) E t hs h A ats/\ρ=[.sh (.ls (ntU ls)),.sh (.ls (prU wt)),.sh (.ls (rwU hs)),.ow (ntU ats),.oo (ndO (tmF (Lp ls) (begun (Lp ls) E t A)) ats.sum),.sh (.n t),a,b,c,d]) ?_ ?_ #[0,[],ats,a,b,c,d,rfl,Bp _,HSt.start cur,by rw[aCi]]
  rotate_left
  ·rintro u l ρ ⟨h,A,ats,a,b,c,d,el,hle,st,rfl⟩ ih;obtain⟨row,hr1,eu,hl,hlt⟩:=aL3 el;subst eu;obtain⟨k,hk⟩:∃k,ats[h]? =some k:=#[_,Ag (by rw[st.cur.len];exact hlt)];have hkU:(ntU ats)[h]? =some (.n k):=by rw[Bg,hk];rfl
   have kle:=st.cur.le h row k hr1 hk;have hG:∀p q,(p,q)∈bU hs->(p,q)∈wt++bU hs:=λp q m=>Be _ m;have skip:∀a b c d:Sl,(∀p,row[k]? =some p->¬Rdy (wt++bU hs) E t p)->_:=λa b c d no=>ih _ #[h+1,A,ats,a,b,c,d,hl,hlt,st.skip nd hG hr1 hk no,rfl];refine#[rfl,_,bQ hkU,trivial,trivial,aQh (cond:=k=0∨∃q e,row[k-1]? =some q/\begun (Lp ls) E t A q=some e/\e<=t) (λfr hf=>?_) (λz=>?_) λz key=>?_]
   rotate_left
   ·have z:U.eq (.n (k:Nat)) (.n ((0:Nat):Int))=true:=z;rw[nH]at z;exact .inl (Ab3 z)
   ·have z:U.eq (.n (k:Nat)) (.n ((0:Nat):Int))=false:=z;rw[nH]at z;have k0:=Ab4 z;have hq:row[k-1]? =some (row[k-1]'∅):=Ag ∅;generalize row[k-1]'∅=q at hq;cases he:begun (Lp ls) E t A q with
    |none=>exact Ab2 he ((st.cur.beg h row k hr1 hk (k-1) q hq).mpr ∅)
    |some e=>
     have ek:(k:Int)-1=((k-1:Nat):Int):=by lia
     refine#[_,_,.inl rfl,_,bQ hkU,_,?_,_,_,rfl,qH he,_,rfl,key _ ?_]
     ·show atI (ntU row) ((k:Int)-1)=some (.n q);rw[ek];exact bQ (by rw[Bg,hq];rfl)
     ·rw[Ab7];constructor
      ·exactλl=> .inr #[q,e,hq,he,∅]
      ·rintro(l|⟨q',e',h1,h2,h3⟩)
       ·lia
       ·rw[hq]at h1;cases h1;rw[he]at h2;cases h2
        lia
   have rdy:=λpc(h3:row[k]? =some pc)=>st.ready hL nd hr1 hk h3;refine#[λz=>#[_,bQ hkU,λz2=>?_,λz2=>?_],λz=>?_]
   rotate_left
   ·have z2:=Ab4 z2;rw[Ab]at z2;exact skip (.sh (.n h)) (.sh (.ls (ntU row))) (.sh (.b fr)) d λp hp=>Ab2 (Ay.mp hp).1 ∅
   ·refine#[nofun,λ_=>skip (.sh (.n h)) (.sh (.ls (ntU row))) (.sh (.b fr)) d λp hp r=>?_];have z:fr=false:=z;have:=hf.mpr ((rdy p hp).mp r).2;rw[z]at this;cases this
   have z:fr=true:=z;have z2:=Ab3 z2;rw[Ab]at z2;have hpc:row[k]? =some (row[k]'∅):=Ag ∅;generalize row[k]'∅=pc at hpc;have pcn:pc<ls.length:=low pc (Ds.mpr #[row,Ai hr1,Ai hpc]);have wl:=g.wl;let bad:Pr->Bool:=λp=>decide (p.1=pc) && !(match begun (Lp ls) E t A p.2 with|some e=>decide (e<=t)|none=>false);have rd:Rdy (wt++bU hs) E t pc↔wt.filter bad=[]:=by
    rw[rdy pc hpc,Tv];constructor
    ·rintro⟨r,_⟩ p hp hbad;obtain⟨b1,b2⟩:=Bool.and_eq_true_iff.mp hbad;obtain⟨e,e1,e2⟩:=r p.2 (by rw[<-Ab3 b1];exact hp);rw[e1]at b2;have b2:(!decide (e<=t))=true:=b2;rw[Ab5 e2]at b2;cases b2
    ·intro no;refine#[λq m=>?_,hf.mp z];have:=no _ m;cases he:begun (Lp ls) E t A q with
     |none=>exact Ab2 (by show(decide (pc=pc) && !(match begun (Lp ls) E t A q with|some e=>decide (e<=t)|none=>false))=true;rw[he,Ab5 rfl];rfl) this
     |some e=>
      refine#[e,rfl,?_];apply Dn;intro l;exact this (by show(decide (pc=pc) && !(match begun (Lp ls) E t A q with|some e=>decide (e<=t)|none=>false))=true;rw[he,Ab5 rfl];simp;lia)
   refine#[_,bQ hkU,_,bQ (show(ntU row)[k]? =some (.n pc) by rw[Bg,hpc];rfl),?_];refine#[by rw[Ab];lia,dZ (B:=λp:Pr=>if bad p=true then some (U.n (p.2:Nat))else none) (λp hp k hk=>?_) ?_]
   ·cases h1:decide (p.1=pc)with
    |false=>
     have hb0:bad p=false:=by show(decide (p.1=pc) && _)=false;rw[h1];rfl
     rw[Ab0 (by rw[hb0];decide)]at hk;refine#[rfl,trivial,trivial,λz=>?_,λ_=>#[nofun,λ_=>hk]];have z:U.eq (.n (p.1:Nat)) (.n (pc:Nat))=true:=z;rw[nH,h1]at z;cases z
    |true=>
     refine#[rfl,trivial,trivial,λ_=>?_,λz=>?_]
     ·cases he:begun (Lp ls) E t A p.2 with
      |none=>
       have hb1:bad p=true:=by show(decide (p.1=pc) && !(match begun (Lp ls) E t A p.2 with|some e=>decide (e<=t)|none=>false))=true;rw[h1,he];rfl
       rw[Ab1 hb1]at hk;refine#[_,_,_,.inl rfl,rfl,λ_=>#[λ_=>hk,nofun],λz=>?_];have z:(!(tmF (Lp ls) (begun (Lp ls) E t A) (p.2:Nat)).isSome)=false:=z;rw[yH,he]at z;cases z
      |some e=>
       have hb1:bad p= !decide (e<=t):=by show(decide (p.1=pc) && !(match begun (Lp ls) E t A p.2 with|some e=>decide (e<=t)|none=>false))=_;rw[h1,he];rfl
       refine#[_,_,_,.inl rfl,rfl,λz=>?_,λ_=>#[_,_,.inl rfl,_,_,rfl,qH he,_,rfl,λz=>?_,λz=>?_]]
       ·have z:(!(tmF (Lp ls) (begun (Lp ls) E t A) (p.2:Nat)).isSome)=true:=z;rw[qH he]at z;cases z
       ·have z:=Ab3 z;rw[Ab1 (by rw[hb1];simp;lia)]at hk;exact hk
       ·have z:=Ab4 z;rw[Ab0 (by rw[hb1];simp;lia)]at hk;exact hk
     ·have z:U.eq (.n (p.1:Nat)) (.n (pc:Nat))=false:=z;rw[nH,h1]at z;cases z
   rw[Bm,aI0];have ew:U.eq (.ls (ntU ((wt.filter bad).map (·.2)))) (.ls [])=decide ((wt.filter bad).map (·.2)=[]):=aEf _ [];refine#[aA5 39 _,trivial,λz=>?_,λz=>?_]
   rotate_left
   ·have z:U.eq (.ls (ntU ((wt.filter bad).map (·.2)))) (.ls [])=false:=z;rw[ew]at z;refine skip (.sh (.n h)) (.sh (.ls (ntU row))) (.sh (.b fr)) (.sh (.n pc)) λp hp r=>?_;rw[hpc]at hp;cases hp;exact Ab4 z (by rw[rd.mp r];rfl)
   ·have z:U.eq (.ls (ntU ((wt.filter bad).map (·.2)))) (.ls [])=true:=z;rw[ew]at z;have rr:=rd.mpr (Bf.mp (Ab3 z));obtain⟨_,n1,n2⟩:=st.next nd hr1 hk (Ak k) hpc;have sl:=aJu st.cur.len st.cur.le;have hlt2:h<(ntU ats).length:=by rw[Ab,st.cur.len];exact hlt
    refine#[_,bQ (aXe pcn),_,_,rfl,∅,_,rfl,?_];refine#[_,bQ hkU,h,h,rfl,qQ hlt2,ih _ #[h+1,A++[pc],ats.set h (k+1),.sh (.n h),.sh (.ls (ntU row)),.sh (.b fr),.sh (.n pc),hl,hlt,st.go nd low hG hr1 hk hpc rr,?_]];rw[sum_set hk, <-aUk n1 n2,show ntU (ats.set h (k+1))=(ntU ats).set h (.n ((k:Int)+1))from Ua ..];rfl
  rintro ρ ⟨h,A,ats,a,b,c,d,el,hle,st,rfl⟩;obtain rfl:h=hs.length:=by
   have:=Ab9 Fm el;simp[iD]at this
   lia
  obtain⟨hA,all⟩:=st.end cov;have dom:∀p e,begun (Lp ls) E t A p=some e->p<ls.length:=λp e h=>by
   rcases lG h with h|⟨_,m,_⟩
   ·exact ci.dom p e h
   ·exact(hA p m).1
  have sl:=aJu st.cur.len st.cur.le;refine#[_,_,.inl rfl,λi u hu=>?_,[.no,.no,.no,.no,.no,.sh (.n t),.no,.no,.no,.no],.no (.no (.no (.no (.no (.sh trivial (.no (.no (.no (.no .nil))))))))),λd ob hu us u1 u2 u3=>?_]
  ·obtain⟨p,e,_,_,rfl⟩:=aE4 hu;exact#[trivial,trivial,trivial]
  refine#[_,_,_,_,rfl,∅,sU (h:=λu=>(endI t u).map U.n) (λu hu k hk=>?_) ?_]
  ·obtain⟨i,hi⟩:=u1 u hu;obtain⟨p,e,_,_,rfl⟩:=aE4 hi;have hk:k ((if(t:Int)<(e:Nat)then some ((e:Nat):Int)else none).map U.n):=hk;refine#[_,rfl,λz=>?_,λz=>?_]
   ·have z:=Ab3 z;rw[Ab1 z]at hk;exact#[_,rfl,hk]
   ·have z:=Ab4 z;rw[Ab0 z]at hk;exact hk
  rw[Bm, <-Vx];refine#[aV5 _,_,rfl,λe0=>?_,λm hm hx=>?_]
  ·exact#[0,∅,ats,begun (Lp ls) E t A,.sh .no,a,b,c,_,rfl,st.cur,.inr #[rfl,rfl,dom,aC8 hL ci hA]]
  ·obtain⟨u,hu,hm⟩:=Lk.mp hm;obtain⟨i,hi⟩:=u1 u hu;obtain⟨p,t2,_,he,rfl⟩:=aE4 hi;have hm:(if(t:Int)<(t2:Nat)then some ((t2:Nat):Int)else none)=some m:=hm;by_cases l:(t:Int)<(t2:Nat)
   ·rw[Ab1 l]at hm;cases hm;have nx:∀p e,begun (Lp ls) E t A p=some e->t<e->t2<=e:=λp e h l2=>by
     have:=hx e (Lk.mpr #[_,u2 _ _ (qH h),by show(if(t:Int)<(e:Nat)then some ((e:Nat):Int)else none)=_;rw[Ab1 ∅]])
     lia
    exact#[left ls.length (begun (Lp ls) E t A) t2+1,by have:=aMd (show t<t2 by lia) (dom p t2 he) he;lia,ats,begun (Lp ls) E t A,.sh (.n t2),a,b,c,_,rfl,st.cur,.inl #[t2,rfl,aLx hL ci hA all ∅ nx,rfl]]
   ·rw[Ab0 l]at hm;cases hm
 ·refine#[nofun,λ_=>#[_,_,rfl,λks kn km=>#[λ_=>q0,λz=>?_]]];have z:=Ab4 z;rw[Ab]at z;have ek:ks=(ks.map Kg).map λn:Nat=>(n:Int):=by
   rw[Ba]
   conv=>lhs;rw[<-Kz ks]
   refine Lb λi hi=>?_;cases hf:tmF (Lp ls) E i with
   |none=>exact Ab2 hf ((km i).mp hi)
   |some u=>
    obtain⟨p,e,rfl,_⟩:=aE4 hf;rfl
  have kl:(ks.map Kg).length=ks.length:=Ab ..;have kb:∀p,p∈ks.map Kg↔E p≠none:=λp=>by
   have:p∈ks.map Kg↔(p:Int)∈ks:=by
    conv=>rhs;rw[ek]
    constructor
    ·exactλh=>Aj.mpr #[p,h,rfl]
    ·intro h;obtain⟨x,hx,e⟩:=Aj.mp h;rw[show p=x by lia];exact hx
   rw[this,km,yH];cases E p<;>simp
  have kn2:(ks.map Kg).Nodup:=by
   rw[ek]at kn;exact Pv _ (λa b h e=>h (by rw[e])) kn
  have all:=cover kn2 (λp hp=>by
   cases e:E p with
   |none=>exact Ab2 e ((kb p).mp hp)
   |some x=>exact dom p x e) (show ls.length<=(ks.map Kg).length by lia)
  have all:∀p,p<ls.length->E p≠none:=λp hp=>(kb p).mp (all p hp);refine#[by rw[Ab];lia,by rw[Ab];lia,by rw[cM];rw[Ab];lia,jB (λ_=>True) (λu hu k hk=>?_) λxs _ _=>q (aS3 hL hb sys all) xs];rw[Ab,Ck,pZ]at hu;obtain⟨p,hp,rfl⟩:=Aj.mp hu;cases e:E p with
  |none=>exact Ab2 e (all p (By.mp hp))
  |some x=>exact#[_,_,.inl rfl,_,_,rfl,qH e,hk _ trivial]
end
def aIq{l:List U}(e:u::l=(iD (ntU rs)).drop h):∃row,rs[h]? =some row/\u=.tp [.n h,.n row]/\l=(iD (ntU rs)).drop (h+1)/\h<rs.length:=by
 have hlt:h<(iD (ntU rs)).length:=by
  have:=Ab9 Fm e;simp at this
  lia
 have hr:h<rs.length:=by simpa[iD]using hlt
 rw[Ha hlt]at e;cases e;refine#[rs[h],Ag hr,?_,rfl,hr];simp[iD]
def aPd{b:Bool}{K:EV->Prop}{X:Prop}{ρ:EV}{good:EV->Prop}(key:∀ρ',good ρ'->K ρ')(h1:b=true->(∀ρ',good ρ'->K ρ')->X)(h2:b=false->good ρ):(b=true->X)/\(b=false->K ρ):=#[λz=>h1 z key,λz=>key _ (h2 z)]
theorem aO2{ts:List Pr}{pc:Nat}:∀l:List Pr,l.filterMap (λp=>if decide (p.1=pc)=true then some (U.n ((ts.getD p.2 (0,0)).2:Nat))else none)=ntU ((l.filter λp=>decide (p.1=pc)).map λp=>(ts.getD p.2 (0,0)).2)
 | []=>rfl
 |v::l=>by
  by_cases h:decide (v.1=pc)=true
  ·rw[Hi (by rw[Ab1 h]),Js (p:=λp:Pr=>decide (p.1=pc)) h,aO2 l];rfl
  ·rw[Hj (by rw[Ab0 h]),Jt (p:=λp:Pr=>decide (p.1=pc)) h,aO2 l]
def aKq(P:An)(w:Bh)(CP:Addr):Fv:=λus R=>∃j ps hs wt sl ts,us=[aEn P w CP j ps hs wt sl,.ls (prU ts)]/\GoodW (lens ps) hs wt/\Sys (wt++bU hs) (lens ps) ts/\R #v[y]
abbrev uF:List Str:=["_law_paper","_law_times","_law_counts","_law_row","_law_k","_law_piece","_law_begin","_law_end","_law_marks"]
def cY:aQ ["_law_paper","_law_times","_law_counts","_law_row","_law_k","_law_piece","_law_begin","_law_end","_law_marks"] ["_law_paper","_law_times"] (aC iJ):={}
def aMt(F:Fun K "_law_steady" "_law_steady" iJ f fd)(cQ:Cfl K CP pNm)(T:Txt mg):↥1 f fd ["_law_paper","_law_times"] (spV (aKq P w CP)):=by
 refine vfn F cY (λae A outer s H E hr=>(aD (aR8 (i:=2) (own:=["_law_piece"]) (cap:=[]) cY.nd (aC iJ) uF rfl rfl (λx h=>aV h) #v[4] rfl (vic (aX (dX cQ (aA 0)))) ↑(aW (i:=0) (~~~["_law_piece"]) rfl (Dl rfl) (Dr rfl)) (bC ⋯) ↑#v[c]) (aD (cO Bl rfl (aX (dX cQ (aA 0))) (cR (i:=3) cY.nd) (aG (cO Bl rfl (aE6 T.enumerate (aB (aA 3) aF)) (rJ rfl (cF (i:=4) cY.nd (cF (i:=5) cY.nd mX))) (aD (aJ3 (bI aY bH (aA 1) (aA 5)) (rJ rfl (cF (i:=6) cY.nd (cF (i:=7) cY.nd mX)))) (aD (aZ (i:=8) cY.nd (cT dG fB (bL (aB aH aF)) (aE5 (own:=["_law_p","_law_q"]) (cap:=[("_law_times",1),("_law_piece",5)]) (aC iJ) uF rfl rfl (λx h=>aV h) #v[4] rfl (vic (aX (dX cQ (aA 0)))) ↑(xR rfl (fY (aW (i:=0) (~~~["_law_p","_law_q","_law_times","_law_piece"]) rfl (Dl rfl) (Dr rfl)) (fY (aW (i:=1) (~~~["_law_p","_law_q","_law_times","_law_piece"]) rfl (Dl rfl) (Dr rfl)) tX))) (aBp (is:=[0,1]) rfl ⋯) ↑(bK (eO (huD hr)) dC (aA 0) (aA 3)) ↑(bI aY bH (bI aY bH (aA 2) (aA 1)) aH)))) (aD (cB (bK lL cU (aA 4) aH) (aG (vK 8 (bI aY bH (bI aY bH (aA 1) (bI aY bH (aA 3) (cT sY cU (aA 4) aH))) aH))) bA) (aG (cB (iM (jV (bK (lU (huD hr)) dC (aA 6) (aO (aCn rfl) aKi T.max Yv (aJ (aA 8) aM))) (fK (bK (lU (huD hr)) dC (aA 7) (cT dG fB (aA 6) (bI aY bH (aA 2) (aA 5))))))) (aG (aU jR)) bA)))))))) (aG (aU jR))))) ?_;rintro _ R ⟨j,ps,hs,wt,sl,ts,rfl,g,sy,q⟩;have pl:=g.n64;rw[Ab]at pl;have wl:=g.wl;have tl:ts.length=ps.length:=by have:=sy.len;rwa [Ab]at this
 have nd:hs.flatten.Nodup:=g.sh.nodup_iff.mpr Gw;have low:∀p∈hs.flatten,p<ps.length:=λp hp=>by have:=By.mp (g.sh.subset hp);rwa [Ab]at this
 refine#[rfl,rfl,aCs #[by rw[Ab];lia,dZ (B:=λp:List Tk=>some (U.n (p.length:Nat))) (λp hp k hk=>?_) ?_]]
 ·show k (some (.n ((p.map tkU).length:Nat)));rw[Ab];exact hk
 rw[Bm,Dk, <-aEk];refine#[rfl,aGa ?_];show iG (iC 3) _ _ (rwU hs) [.sh (aEn P w CP j ps hs wt sl),.sh (.ls (prU ts)),.ow (ntU (lens ps)),.no,.no,.no,.no,.no,.no];refine bG (λl ρ=>∃(dn rst:#v[f])(a b c d e f:Sl),l=rwU rst/\dn++rst=hs/\ρ=[.sh (aEn P w CP j ps hs wt sl),.sh (.ls (prU ts)),.ow (ntU (lens ps)),a,b,c,d,e,f]) ?_ ?_ #[[],hs,_,_,_,_,_,_,rfl,rfl,rfl]
 ·rintro ρ ⟨dn,rst,a,b,c,d,e,f,el,ed,rfl⟩;exact q
 rintro u l ρ ⟨dn,rst,a,b,c,d,e,f,el,ed,rfl⟩ ih;cases rst with
 |nil=>cases el
 |cons row rst=>
 cases el;have hi:hs[dn.length]? =some row:=by rw[<-ed];simp
 show iG (aLd [4,5]) _ _ (iD (ntU row)) [.sh (aEn P w CP j ps hs wt sl),.sh (.ls (prU ts)),.ow (ntU (lens ps)),.sh (.ls (ntU row)),b,c,d,e,f];refine bG (λl ρ=>∃(k:Nat)(b c d e f:Sl),l=(iD (ntU row)).drop k/\ρ=[.sh (aEn P w CP j ps hs wt sl),.sh (.ls (prU ts)),.ow (ntU (lens ps)),.sh (.ls (ntU row)),b,c,d,e,f]) ?_ ?_ #[0,b,c,d,e,f,rfl,rfl]
 ·rintro ρ ⟨k,b,c,d,e,f,el,rfl⟩;exact ih _ #[dn++[row],rst,_,_,_,_,_,_,rfl,by rw[<-ed];simp,rfl]
 rintro u l ρ ⟨k,b,c,d,e,f,el,rfl⟩ ih2;obtain⟨pc,hk,rfl,hl,hlt⟩:=aIq el;have pcn:pc<ps.length:=low pc (Ds.mpr #[row,Ai hi,Ai hk]);obtain⟨s1,s2⟩:=sy.sys pc (by rw[Ab];exact pcn);have hp:=xU (ts:=ts) (i:=pc) ∅;refine#[rfl,_,bQ hp,rfl,?_];refine#[rfl,aGb #[by rw[Ab];lia,dZ (B:=λp:Pr=>if decide (p.1=pc)=true then some (U.n ((ts.getD p.2 (0,0)).2:Nat))else none) (λp hp k hk=>?_) ?_]]
 ·have q2:p.2<ps.length:=by have:=(g.wk p hp).2;rwa [Ab]at this
  refine#[rfl,trivial,trivial,λz=>#[_,bQ (xU ∅),_,rfl,?_],λz=>?_]
  ·have z:U.eq (.n (p.1:Nat)) (.n (pc:Nat))=true:=z;rw[nH]at z;rw[Ab1 z]at hk;exact hk
  ·have z:U.eq (.n (p.1:Nat)) (.n (pc:Nat))=false:=z;rw[nH]at z;rw[Ab0 (by rw[z];decide)]at hk;exact hk
 rw[Bm,aO2];have hrow:∀q,(pc,q)∈bU hs↔0<k/\row[k-1]? =some q:=λq=>by
  rw[gM];constructor
  ·rintro⟨i,j,row',h1,h2,h3⟩;obtain⟨e1,e2⟩:=kJ nd hi h1 hk h2;rw[<-e1,hi]at h1;cases h1;exact#[∅,by rw[show k-1=j by lia];exact h3]
  ·rintro⟨h1,h2⟩;exact#[dn.length,k-1,row,hi,by rw[show k-1+1=k by lia];exact hk,h2]
 have ml:((wt.filter λp=>decide (p.1=pc)).map λp=>(ts.getD p.2 (0,0)).2).length<=wt.length:=by rw[Ab];exact Mz ..
 have mm:∀x,x∈((wt.filter λp=>decide (p.1=pc)).map λp=>(ts.getD p.2 (0,0)).2)↔ ∃q,(pc,q)∈wt/\(ts.getD q (0,0)).2=x:=λx=>by
  rw[Aj];constructor
  ·rintro⟨p,hp,rfl⟩;obtain⟨h1,h2⟩:=Gq.mp hp;exact#[p.2,by rw[<-Ab3 h2];exact h1,rfl]
  ·rintro⟨q,h1,rfl⟩;exact#[(pc,q),Gq.mpr #[h1,Ab5 rfl],rfl]
 generalize ((wt.filter λp=>decide (p.1=pc)).map λp=>(ts.getD p.2 (0,0)).2)=M at ml mm;refine#[by show 1+(ntU M).length<=10000;rw[Ab];lia,aPd (good:=λρ'=>∃Ms:List Nat,Ms.length<=1000/\(∀x,x∈Ms↔x=0∨∃q,(pc,q)∈wt++bU hs/\(ts.getD q (0,0)).2=x)/\ρ'=[.sh (aEn P w CP j ps hs wt sl),.sh (.ls (prU ts)),.ow (ntU (lens ps)),.sh (.ls (ntU row)),.sh (.n k),.sh (.n pc),.sh (.n (ts.getD pc (0,0)).1),.sh (.n (ts.getD pc (0,0)).2),.ow (ntU Ms)]) ?_ ?_ ?_]
 ·rintro ρ' ⟨Ms,m1,m2,rfl⟩;have bM:(ts.getD pc (0,0)).1∈Ms:=(m2 _).mpr (s2.2.imp id λ⟨q,h1,h2⟩=>#[q,h1,Bs h2]);have bX:∀x∈Ms,x<=(ts.getD pc (0,0)).1:=λx hx=>by
   rcases (m2 x).mp hx with rfl|⟨q,h1,rfl⟩
   ·exact Bp _
   ·obtain⟨e,h2,h3⟩:=s2.1 q h1;cases h2;exact h3
  refine#[Ms.map λn:Nat=>(n:Int),(by rw[Ba];rfl),(λe=>by rw[Bf.mp e]at bM;cases bM),λm hm hx=>?_];obtain⟨x,hx1,rfl⟩:=Aj.mp hm;obtain rfl:x=(ts.getD pc (0,0)).1:=by
   have h1:=bX x hx1;have h2:=hx _ (Aj.mpr #[_,bM,rfl])
   lia
  refine#[trivial,trivial,λz=>?_,λz=>#[_,bQ (aEj (by rw[Ab];exact pcn)),trivial,trivial,λz=>?_,λz=>?_]]
  ·have z:(!(U.eq (.n ((ts.getD pc (0,0)).1:Nat)) (.n ((ts.getD pc (0,0)).1:Nat))))=true:=z;rw[nH,Ab5 rfl]at z;cases z
  ·have z:(!(U.eq (.n ((ts.getD pc (0,0)).2:Nat)) (.n (((ts.getD pc (0,0)).1:Nat)+(Lf (lens ps) pc:Nat):Int))))=true:=z;rw[show(((ts.getD pc (0,0)).1:Nat)+(Lf (lens ps) pc:Nat):Int)=(((ts.getD pc (0,0)).1+Lf (lens ps) pc:Nat):Int) by lia,nH,Ab5 s1]at z;cases z
  ·exact ih2 _ #[k+1,_,_,_,_,_,hl,rfl]
 ·intro z key;have z:=Ab3 z;have hq:row[k-1]? =some (row[k-1]'∅):=Ag ∅;generalize row[k-1]'∅=qq at hq;have qn:qq<ps.length:=low qq (Ds.mpr #[row,Ai hi,Ai hq]);refine#[by rw[Am,Ab];show 1+M.length<10000;lia,.n qq,?_,_,bQ (xU (show qq<ts.length by lia)),_,rfl,key _ #[0::M++[(ts.getD qq (0,0)).2],by simp;lia,λx=>?_,?_]]
  ·show atI (ntU row) ((k:Int)-1)=some (.n qq);rw[show(k:Int)-1=((k-1:Nat):Int) by lia];exact bQ (by rw[Bg,hq];rfl)
  ·rw[Bd,Ax,mm,Ap,or_assoc];refine or_congr Mo #[λh=>?_,λ⟨q,h1,h2⟩=>?_]
   ·rcases h with ⟨q,h1,h2⟩|h
    ·exact#[q,Bo _ h1,h2]
    ·exact#[qq,Be _ ((hrow qq).mpr #[∅,hq]),h.symm]
   ·rcases Bd.mp h1 with h1|h1
    ·exact .inl #[q,h1,h2]
    ·have:=((hrow q).mp h1).2;rw[hq]at this;cases this;exact .inr h2.symm
  ·rw[show ntU (0::M++[(ts.getD qq (0,0)).2])=ntU (0::M)++[.n ((ts.getD qq (0,0)).2:Nat)]from Co];rfl
 ·intro z;have z:=Ab4 z;refine#[0::M,by rw[Ao];lia,λx=>?_,rfl];rw[Ax,mm];refine or_congr Mo #[λ⟨q,h1,h2⟩=>#[q,Bo _ h1,h2],λ⟨q,h1,h2⟩=>#[q,(Bd.mp h1).elim id λh=>Ab2 ((hrow q).mp h).1 ∅,h2]]
structure aAd(ns:List Int)(r:Int)(ps:List (List Tk))(hs:#v[f])(wt:List Pr):Prop where
 gs:iW ns
 a40:(rY ns).length<=40
 mn:oG ns<=40
 r0:0<=r
 r12:r<=12
 lo:aKd ns r ps hs wt
 no:NoR (lens ps) hs wt
def aOt(P:An)(w:Bh)(N:Cn)(CG CJ:Addr):Fv:=λus R=>∃ns rs t ys m r ls,∃ps hs wt,us=[rR N CG CJ ns rs t ys m r ls,.op #v[i].fz,.tp [.ls (pcU ps),.ls (rwU hs),.ls (prU wt)],.wl]/\aAd ns r ps hs wt/\R #v[y]
def aAd.pap{ps:List (List Tk)}(g:aAd ns r ps hs wt)(sub:∀p∈wt',p∈wt)(wl:wt'.length<=8):aJ7 ns r ps hs wt':=by
 have pl:=g.lo.pl;exact#[g.gs,g.a40,g.mn,g.r0,g.r12,#[∅,λp hp=>#[(g.lo.pg p hp).1,by have:=(g.lo.pg p hp).2.1;lia,(g.lo.pg p hp).2.2]],∅,g.lo.sh,g.lo.h1,g.lo.h4,λp hp=>g.lo.wk p (sub p hp),∅]
theorem NoR.sub{ls:List Nat}{hs:#v[f]}{wt wt':List Pr}(h:NoR ls hs wt)(sub:∀p∈wt',p∈wt):NoR ls hs wt':=λws st=>h ws λv hv hn=>by
 obtain⟨m,h1,h2⟩:=st v hv hn;exact#[m,(Bd.mp h1).elim (λz=>Bo _ (sub _ z)) (Be _),h2]
def aAd.walk{ps:List (List Tk)}(g:aAd ns r ps hs wt)(sub:∀p∈wt',p∈wt)(wl:wt'.length<=8):GoodW (lens ps) hs wt':=by
 have pl:=g.lo.pl;exact#[by rw[Ab];lia,by rw[Ab];exact g.lo.sh,g.lo.h1,g.lo.h4,λp hp=>by rw[Ab];exact g.lo.wk p (sub p hp),∅,g.no.sub sub]
def aXf(h:aFg a ts)(k:aFg b ts):a=b:=by
 have l1:a<=b:=by
  rcases h.1 with z|⟨t,ht,z⟩
  ·lia
  ·have:=k.2 t ht;lia
 have l2:b<=a:=by
  rcases k.1 with z|⟨t,ht,z⟩
  ·lia
  ·have:=h.2 t ht;lia
 lia
theorem aBk{α:Type}{g:α->Nat}:∀{l:List α},(l.map λx=>((g x:Nat):Int)).sum=(((l.map g).sum:Nat):Int)
 | []=>rfl
 |a::l=>by
  rw[Bj,Fj,aBk,Bj,Fj]
  lia
def aJi(n:Nat)(ps:List Pr):U.dts (n+2) (prU ps):=by
 induction ps with
 |nil=>trivial
 |cons p ps ih=>exact#[#[trivial,trivial,trivial],ih]
def aQt(ps:List Pr):U.eq (.ls (prU ps)) (.ls [])=ps.isEmpty:=by cases ps<;>rfl
def aMi(s:Sys ([]++bU hs) ls ts)(nd:hs.flatten.Nodup)(low:∀row∈hs,∀p∈row,p<ls.length)(cov:∀p,p<ls.length->p∈hs.flatten)(all:∀row∈hs,(row.map (Lf ls)).sum<=M)(mx:aFg m ts):m<=M:=by
 rw[Bm]at s;rcases mx.1 with z|⟨t,ht,z⟩
 ·lia
 ·obtain⟨p,hp,rfl⟩:=Hn ht;have pl:p<ls.length:=by rw[<-s.len];exact hp
  obtain⟨row,hr,hpr⟩:=Ds.mp (cov p pl);obtain⟨i,hi⟩:=Cu.mp hr;obtain⟨j,hj⟩:=Cu.mp hpr;have h1:=aYf s nd hi (low row hr) j p hj;have h2:((row.take (j+1)).map (Lf ls)).sum<=(row.map (Lf ls)).sum:=by
   have e:=Ab9 (λl=>(Zd (Lf ls) l).sum) (Gb (j+1) row);simp only[Co,Xq]at e
   lia
  have h3:=all row hr;have e':Te ts p=m:=by
   unfold Te;rw[Cc,Ag hp];exact z
  lia
def aSo(l:List Pr)(k:Nat):mG (prU l) none (some (k:Int))=prU (l.take k):=by
 show mG (l.map λp:Pr=>U.tp [.n p.1,.n p.2]) none (some (k:Int))=(l.take k).map λp:Pr=>U.tp [.n p.1,.n p.2];unfold mG;rw[HT.aBe,HT.zV,Rw,Uo,Ab,Su];rcases Aa7 k l.length with h|h
 ·rw[Re h]
 ·rw[Xo h,Fx (by rw[Ab];lia),Fx (by rw[Ab];lia)]
def aSp(l:List Pr)(k:Nat):mG (prU l) (some (k:Int)) none=prU (l.drop k):=by
 show mG (l.map λp:Pr=>U.tp [.n p.1,.n p.2]) (some (k:Int)) none=(l.drop k).map λp:Pr=>U.tp [.n p.1,.n p.2];unfold mG;rw[HT.aBe,HT.zV,Ab,Sw,Fx (by rw[Fs,Ab];lia)];rcases Aa7 k l.length with h|h
 ·rw[Re h]
 ·rw[Xo h,Tw (by rw[Ab];lia),Tw (by rw[Ab];lia)]
theorem aKs{α:Type}:∀l:List α,l.filterMap (λ_=>(none:Option U))=[]
 | []=>rfl
 |_::l=>aKs l
def aT3{l:List Pr}:prU l++[.tp [.n p.1,.n p.2]]=prU (l++[p]):=by simp
theorem aQs:∀l:List Pr,D.eqs (U.ds (prU l)) (U.ds (prU l))=true
 | []=>rfl
 |p::l=>by
  show((eqV (.int p.1) (.int p.1) && (eqV (.int p.2) (.int p.2) && true)) && D.eqs (U.ds (prU l)) (U.ds (prU l)))=true;rw[aQs l];simp[eqV]
def aT2(l:List Pr):U.eq (.ls (prU l)) (.ls (prU l))=true:=aQs l
abbrev qM:List Str:=["_law_job_here","_law_slots","_law_parts","_law_tape_here","_law_pieces","_law_hands","_law_waits","_law_paper","_law_counts","_law_times","_law_end","_law_most","_law_at","_law_fewer"]
def bY:aQ ["_law_job_here","_law_slots","_law_parts","_law_tape_here","_law_pieces","_law_hands","_law_waits","_law_paper","_law_counts","_law_times","_law_end","_law_most","_law_at","_law_fewer"] ["_law_job_here","_law_slots","_law_parts","_law_tape_here"] (aC fH):={}
def aP6(F:Fun K "_law_right" "_law_right" fH f fd)(M_Paper:MkU P w K mg base 7 CP "Paper" ["self","job","pieces","hands","waits","slots","wanted"] (aIv P w N CG CJ))(iY:⇑4 "walk_times" ["paper"] (spV (aD8 P w CP)))(aIe:⇑5 "walk_end" ["paper"] (spV (aVy P w CP)))(aIc:⇑5 "rows_end" ["lasts","pairs","rows"] (spV aVw))(aBs:⇑1 "_law_steady" ["_law_paper","_law_times"] (spV (aKq P w CP)))(c__law_draw:⇑1 "_law_draw" ["_law_tape_here","_law_many"] (spV aF6))(T:Txt mg):↥9 f fd ["_law_job_here","_law_slots","_law_parts","_law_tape_here"] (spV (aOt P w N CG CJ)):=by
 refine vfn F bY (λae A outer s H E hr=>(aD (aJ3 (aA 2) (rJ rfl (cF (i:=4) bY.nd (cF (i:=5) bY.nd (cF (i:=6) bY.nd mX))))) (aD (aZ (i:=7) bY.nd (lF M_Paper (hr.mono ⋯) (aB (aA 0) (aB (aA 4) (aB (aA 5) (aB (aA 6) (aB (aA 1) (aB (bL aF) aF)))))))) (aD (aZ (i:=8) bY.nd (dU (own:=["_law_piece"]) (cap:=[]) (aC fH) qM rfl rfl (λx h=>aV h) #v[4] rfl (vic (aX (aA 4))) ↑(aW (i:=0) (~~~["_law_piece"]) rfl (Dl rfl) (Dr rfl)) (bC ⋯) ↑#v[c])) (fU 8 (aD (aZ (i:=9) bY.nd (aL iY (hr.mono ⋯) rfl (aB (aA 7) aF))) (fU 9 (aD (aZ (i:=10) bY.nd (aL aIe (hr.mono ⋯) rfl (aB (aA 7) aF))) (aD (cB (iM (jV (bK (lU (huD hr)) dC (aA 10) (aL aIc (hr.mono ⋯) rfl (aB (aA 8) (aB (aA 6) (aB (aA 5) aF))))) (fK (cI (cL (aL aBs (hr.mono ⋯) rfl (aB (aA 7) (aB (aA 9) aF)))))))) (aG (aU jR)) bA) (aD (aZ (i:=11) bY.nd (aO (aCn rfl) aKi T.max Yv (aJ (aY4 (own:=["_law_row"]) (cap:=[("_law_counts",8)]) aKu (aC fH) qM rfl rfl (λx h=>aV h) #v[4] rfl (vic (aX (aA 5))) (λcs cf C s2 H2 fp=>(aW (i:=0) (~~~["_law_row","_law_counts"]) rfl (Dl rfl) (Dr rfl))) (bC ⋯) (λcs cf C s2 H2 fp=>(aO (vQ rfl) aD3 T.sum Yu (aJ (aRz (own:=["_law_piece"]) (icap:=[("_law_counts",1)]) (aC fH) cf rfl rfl #v[4] rfl (vic (aX (aA 0))) (λcl C' s3 H3 fp'=>(aW (i:=0) (~~~["_law_piece","_law_counts"]) rfl (Dl rfl) (Dr rfl))) (bC ⋯) (λcl C' s3 H3 fp'=>(bI aY bH (aA 1) (aA 0)))) aM)))) aM))) (aD (cB (iM (jV (bK aGx cU (aA 10) (aA 11)) (fK (bK lL cU (aA 10) (aO (vQ rfl) aD3 T.sum Yu (aJ (aA 8) aM)))))) (aG (aU jR)) bA) (aD (cB (bK (eO (huD hr)) dC (aA 6) (bL aF)) (aG (aU (iB (eO (huD hr)) dC (aA 10) (aA 11)))) bA) (aD (aZ (i:=12) bY.nd (aL c__law_draw (hr.mono ⋯) rfl (aB (aA 3) (aB (aO aK bF T.len Cf (aJ (aA 6) aM)) aF)))) (aD (aZ (i:=13) bY.nd (aL iY (hr.mono ⋯) rfl (aB (lF M_Paper (hr.mono ⋯) (aB (aA 0) (aB (aA 4) (aB (aA 5) (aB (cT dG fB (aR5 (aA 6) aE7 (wO (aA 12))) (aR5 (aA 6) (wO (cT dG fB (aA 12) aH)) aE7)) (aB (aA 1) (aB (bL aF) aF))))))) aF))) (aD (cB (bK (lU (huD hr)) dC (aE5 (own:=["_law_k"]) (cap:=[("_law_times",9),("_law_fewer",13)]) (aC fH) qM rfl rfl (λx h=>aV h) #v[4] rfl (vic (eY T.range (aJ (aO aK bF T.len Cf (aJ (aA 4) aM)) aM))) ↑(aW (i:=0) (~~~["_law_k","_law_times","_law_fewer"]) rfl (Dl rfl) (Dr rfl)) (bC ⋯) ↑(bK lL cU (bI aY bH (bI aY bH (aA 2) (aA 0)) aH) (bI aY bH (bI aY bH (aA 1) (aA 0)) aH)) (λcl C s2 H2 fp=>aH)) (bL aF)) (aG (aU jR)) bA) (aG (aU (iB (eO (huD hr)) dC (aL iY (hr.mono ⋯) rfl (aB (lF M_Paper (hr.mono ⋯) (aB (aA 0) (aB (aA 4) (aB (aA 5) (aB (cT dG fB (aA 6) (bL (aB (bI aY bH (aA 6) (aA 12)) aF))) (aB (aA 1) (aB (bL aF) aF))))))) aF)) (aA 9))))))))))))))))))) ?_;rintro _ R ⟨ns,rs,t,ys,m,r,ls,ps,hs,wt,rfl,g,q⟩;have pl:=g.lo.pl;have wl:=g.lo.wl;have gw:=g.walk (λ_ h=>h) ∅;refine#[rfl,rfl,ns,rs,t,ys,m,r,ls,ps,hs,wt,rfl,g.pap (λ_ h=>h) ∅,?_];refine#[by rw[Ab];lia,dZ (B:=λp:List Tk=>some (U.n (p.length:Nat))) (λp hp k hk=>?_) ?_]
 ·show k (some (.n ((p.map tkU).length:Nat)));rw[Ab];exact hk
 rw[Bm,Dk, <-aEk];refine#[_,ps,hs,wt,_,rfl,gw,λts sy=>?_];refine#[_,ps,hs,wt,_,rfl,gw,λts2 e2 sy2 mx2=>?_];refine#[lens ps,hs,wt,rfl,gw,λts3 e3 sy3 mx3=>?_];have hL:∀x∈lens ps,0<x:=λx hx=>by
  obtain⟨p,hp,rfl⟩:=Aj.mp hx;exact Eg.mpr (g.lo.pg p hp).1
 obtain rfl:ts2=ts:=Sys.same hL gw.below (λ_=>Mo) sy2 sy;obtain rfl:ts3=ts2:=Sys.same hL gw.below (λ_=>Mo) sy3 sy2;obtain rfl:e3=e2:=aXf mx3 mx2;refine#[trivial,trivial,λz=>?_,λ_=>#[_,ps,hs,wt,_,ts3,rfl,gw,sy,nofun,λ_=>?_]]
 ·have z:(!(U.eq (.n (e3:Nat)) (.n (e3:Nat))))=true:=z;rw[nH,Ab5 rfl]at z;cases z
 have sub:∀p∈bU hs,p∈wt++bU hs:=λp hp=>Be _ hp;have nd:hs.flatten.Nodup:=gw.sh.nodup_iff.mpr Gw;have low:∀row∈hs,∀p∈row,p<(lens ps).length:=λrow hr p hp=>By.mp (gw.sh.subset (Ds.mpr #[row,hr,hp]));have cov:∀p,p<(lens ps).length->p∈hs.flatten:=λp hp=>gw.sh.symm.subset (By.mpr hp);have fl:=gw.fl;rw[Ab]at fl;have l6:∀p,Lf (lens ps) p<=6:=λp=>by
  unfold Lf;rw[Cc];cases e:(lens ps)[p]? with
  |none=>exact Bp _
  |some x=>
   obtain⟨y,hy,rfl⟩:=Aj.mp (Ai e);exact(g.lo.pg y hy).2.1
 show uJ.nx _ [.sh (rR N CG CJ ns rs t ys m r ls),.sh (.op #v[i].fz),.sh (.tp [.ls (pcU ps),.ls (rwU hs),.ls (prU wt)]),.sh .wl,.sh (.ls (pcU ps)),.sh (.ls (rwU hs)),.sh (.ls (prU wt)),.sh (aEn P w CP (rR N CG CJ ns rs t ys m r ls) ps hs wt (spS ns r.toNat)),.sh (.ls (ntU (lens ps))),.sh (.ls (prU ts3)),.sh (.n e3),.no,.no,.no];have h4:=g.lo.h4;refine#[by rw[Ab];lia,dZ (B:=λrow:List Nat=>some (U.n (((row.map (Lf (lens ps))).sum:Nat):Int))) (λrow hr k hk=>?_) ?_]
 ·have rl:=(Ic hr).length_le;refine#[by rw[Ab];lia,dZ (B:=λp:Nat=>some (U.n (Lf (lens ps) p:Nat))) (λp hp k hk=>#[_,bQ (aEj (low row hr p hp)),hk]) ?_];rw[Bm,Dk];refine#[row.map λp=>((Lf (lens ps) p:Nat):Int),by rw[Ba];rfl,by rw[Ab];lia,λx hx=>?_,?_]
  ·obtain⟨p,_,rfl⟩:=Aj.mp hx;have:=l6 p
   lia
  ·rw[aBk];exact hk
 rw[Bm,Dk];have h1:=g.lo.h1;refine#[hs.map λrow=>(((row.map (Lf (lens ps))).sum:Nat):Int),by rw[Ba];rfl,(λe=>by rw[Bf.mp e]at h1;cases h1),λmm hm hx=>?_];obtain⟨r0,hr0,rfl⟩:=Aj.mp hm;have most:(r0.map (Lf (lens ps))).sum<=e3:=aRb sy sub hr0 (low r0 hr0) mx2;have all:∀row∈hs,(row.map (Lf (lens ps))).sum<=(r0.map (Lf (lens ps))).sum:=λrow hr=>by
  have:=hx _ (Aj.mpr #[row,hr,rfl])
  lia
 generalize (r0.map (Lf (lens ps))).sum=M at most all;refine#[λz=>Ab2 (Ab3 z) ∅,λ_=>#[(lens ps).map λn:Nat=>(n:Int),by rw[Ba];rfl,by rw[Ab,Ab];lia,λx hx=>?_,λz=>?_,λ_=>?_]]
 ·obtain⟨n,hn,rfl⟩:=Aj.mp hx;obtain⟨y,hy,rfl⟩:=Aj.mp hn;have:=(g.lo.pg y hy).2.1
  lia
 ·have z:=Ab3 z;have:=aWy hL gw.below sy mx2;rw[show((lens ps).map λn:Nat=>(n:Int)).sum=((lens ps).sum:Nat) by rw[<-Kz (lens ps),Ba];exact aBk]at z
  lia
 refine#[aJi 37 wt,trivial,λz=>?_,λz=>?_]
 ·have z:U.eq (.ls (prU wt)) (.ls [])=true:=z;rw[aQt]at z;obtain rfl:=List.isEmpty_iff.mp z;refine#[trivial,trivial,?_];have le:e3<=M:=aMi sy nd low cov all mx2;show R (.sh (.b (U.eq (.n (e3:Nat)) (.n (M:Nat)))));rw[nH,Ab5 (show e3=M by lia)];exact q
 have z:U.eq (.ls (prU wt)) (.ls [])=false:=z;rw[aQt]at z;have w0:0<wt.length:=Eg.mpr λe=>by rw[e]at z;cases z
 refine#[_,rfl,by rw[Ab];lia,by rw[Ab];lia,λx x0 x1=>?_];rw[Ab]at x1;obtain⟨x,rfl⟩:=Fp x0;have x1:x<wt.length:=by lia
 have sub1:∀p∈wt.take x++wt.drop (x+1),p∈wt:=λp hp=>(Bd.mp hp).elim Iz Ko;have len1:(wt.take x++wt.drop (x+1)).length<=8:=by rw[Am,Gg,Fs];lia
 have ec:mG (prU wt) none (some (x:Int))++mG (prU wt) (some ((x:Int)+1)) none=prU (wt.take x++wt.drop (x+1)):=by
  rw[show(x:Int)+1=((x+1:Nat):Int) by lia,aSo,aSp];exact Co.symm
 have lc:(mG (prU wt) none (some (x:Int))).length+(mG (prU wt) (some ((x:Int)+1)) none).length<=10000:=by
  rw[<-Am,ec,Ab]
  lia
 refine#[lc,?_];rw[ec];refine#[ns,rs,t,ys,m,r,ls,ps,hs,wt.take x++wt.drop (x+1),rfl,g.pap sub1 len1,_,ps,hs,wt.take x++wt.drop (x+1),_,rfl,g.walk sub1 len1,λts1 sy1=>?_];have le1:∀p,p<ps.length->Te ts1 p<=Te ts3 p:=λp hp=>Sys.le hL (g.walk sub1 len1).below (λo ho=>(Bd.mp ho).elim (λz=>Bo _ (sub1 o z)) (Be _)) sy1 sy (by rw[Ab];exact hp);have tl1:ts1.length=ps.length:=by have:=sy1.len;rwa [Ab]at this
 have tl3:ts3.length=ps.length:=by have:=sy.len;rwa [Ab]at this
 refine#[by rw[Ab];lia,by rw[Ab];lia,by rw[cM,Ab];lia,?_];rw[Ck,Ab,pZ];refine dZ (B:=λ_:Nat=>none) (λp hp k hk=>?_) ?_
 ·have hp:=By.mp hp;refine#[_,bQ (xU ∅),_,rfl,_,bQ (xU ∅),_,rfl,λz=>?_,λ_=>hk];have z:=Ab3 z;have:=le1 p hp;unfold Te at this
  lia
 rw[Bm,aKs];refine#[trivial,trivial,nofun,λ_=>?_];have e9:wt[x]? =some wt[x]:=Ag x1;generalize wt[x]=pw at e9;have sub2:∀p∈wt++[pw],p∈wt:=λp hp=>(Bd.mp hp).elim id λh=>by rw[Ap.mp h];exact Ai e9
 have len2:(wt++[pw]).length<=8:=by rw[Am,Dw];lia
 refine#[_,bQ (show(prU wt)[x]? =some (.tp [.n pw.1,.n pw.2]) by rw[Bg,e9];rfl),by rw[Ab];show _+1<=_;lia,?_];rw[aT3];refine#[ns,rs,t,ys,m,r,ls,ps,hs,wt++[pw],rfl,g.pap sub2 len2,_,ps,hs,wt++[pw],_,rfl,g.walk sub2 len2,λts4 sy4=>?_];obtain rfl:ts4=ts3:=Sys.same hL (g.walk sub2 len2).below (λo=>#[λho=>(Bd.mp ho).elim (λz=>Bo _ (sub2 o z)) (Be _),λho=>(Bd.mp ho).elim (λz=>Bo _ (Bo _ z)) (Be _)]) sy4 sy;refine#[aJi 37 _,aJi 37 _,?_];show R (.sh (.b (U.eq (.ls (prU ts4)) (.ls (prU ts4)))));rw[aT2];exact q
open PySem PyProof.Rows L2 KR
def mJ{h:α->U}{l:List α}(n:∀x∈l,Nw (h x)):Nws (l.map h):=by
 induction l with
 |nil=>trivial
 |cons a l ih=>exact#[n a Ah,ih λx hx=>n x (Af _ hx)]
def vZ(l:List Int):Nws (l.map U.n):=mJ λ_ _=>trivial
def aV6(q:Tk):Nw (tkU q):=#[trivial,vZ q.2,trivial]
def aJa(l:List Tk):Nws (l.map tkU):=mJ λq _=>aV6 q
def aPo(r:Rim):Nw r.u:=by cases r<;>exact#[trivial,by first|trivial|exact#[trivial,trivial]]
theorem aI9(N:Cn):∀t:Tm,Nw (enc N t)
 |.num _=>#[trivial,trivial]
 |.take _ ss=>#[trivial,vZ ss,trivial]
 |.bin _ a b=>#[aI9 N a,aI9 N b,trivial]
def aPn{rs:List Rim}{ys:List Tk}{m r:Int}{ls:List (List Int)}:Nw (rR N CG CJ ns rs t ys m r ls):=
 #[aJa ys,#[vZ ns,mJ λr _=>aPo r,trivial],aI9 N t,trivial,trivial,mJ λl _=>vZ l,trivial]
def aV7{rs:List Rim}{ys:List Tk}:Nw (wD ns rs ys r):=#[vZ ns,mJ λr _=>aPo r,aJa ys,trivial,trivial]
def bAt{P:An}{w:Bh}(h:∀p∈kvs,Nw p.2)(f:(pdO P w kvs).fz.φ W B H v):(pdO P w kvs).fz.φ W' B H v:=by
 obtain⟨p,S,e,nb,s,xs,hp,r⟩:=f;refine#[p,S,e,nb,s,xs,hp,?_];clear hp;induction r with
 |nil=>exact .nil
 |cons d rv dv t ih=>exact .cons (DU.nw _ (aV6 _) d) rv (DU.nw _ (h _ Ah) dv) (ih λp hp=>h p (Af _ hp))
def aOq(K:Ad):Fv:=λus R=>∃sc:List Int,us=[.op (aJo K sc)]/\R #v[y]
abbrev aVk:List Str:=["_law_script","_law_world_here","_law_job_here","_law_slots","_law_cell","_law_tape_here","_law_pieces","_law_hands","_law_waits"]
def rC:aQ ["_law_script","_law_world_here","_law_job_here","_law_slots","_law_cell","_law_tape_here","_law_pieces","_law_hands","_law_waits"] ["_law_script"] (aC yS):={}
def aXj(F:Fun K "law" "law" yS f fd)(nF:⇑1 "_law_cell_at" ["_law_script","_law_k"] (spV (aVs K)))(sH:⇑1 "_law_tape" ["_law_cell"] (spV aVx))(aDv:⇑2 "_law_world" ["_law_tape_here"] (spV aOx))(aH9:⇑16 "_law_job" ["_law_world_here","_law_tape_here"] (spV (aVu N CG CJ)))(qO:⇑2 "_law_spots" ["_law_world_here"] (spV aIw))(aDt:⇑3 "_law_loose" ["_law_world_here","_law_tape_here"] (spV aOr))(aDs:⇑1 "_law_clock" ["_law_lasts","_law_pairs","_law_rows"] (spV aOk))(aDu:⇑9 "_law_right" ["_law_job_here","_law_slots","_law_parts","_law_tape_here"] (spV (aOt P w N CG CJ)))(T:Txt mg):↥18 f fd ["_law_script"] (spV (aOq K)):=by
 refine vfn F rC (λae A outer s H E hr=>(aD (aZ (i:=1) rC.nd (aRx aDv (hr.mono ⋯) rfl (aL sH (hr.mono ⋯) rfl (aB (aL nF (hr.mono ⋯) rfl (aB (aA 0) (aB aH aF))) aF)) aF)) (aD (aZ (i:=2) rC.nd (aNj aH9 (hr.mono ⋯) rfl (aA 1) (aL sH (hr.mono ⋯) rfl (aB (aL nF (hr.mono ⋯) rfl (aB (aA 0) (aB aH aF))) aF)))) (aD (aZ (i:=3) rC.nd (aY5 (P:=P) (w:=w) rfl rfl hr rfl T.dict (dU (own:=["_law_spot"]) (cap:=[]) (aC yS) aVk rfl rfl (λx h=>aV h) #v[4] rfl (vic (aX (aL qO (hr.mono ⋯) rfl (aB (aA 1) aF)))) ↑(aW (i:=0) (~~~["_law_spot"]) rfl (Dl rfl) (Dr rfl)) (bC ⋯) ↑(dO (aB (aA 0) (aB aH aF)))))) (fU 3 (aD (cO Bl rfl (aX (cT dG fB (bL (aB (aL nF (hr.mono ⋯) rfl (aB (aA 0) (aB aH aF))) aF)) (aZa rfl (aA 0) (wO aH) (wO aH)))) (cR (i:=4) rC.nd) (aD (aZ (i:=5) rC.nd (aL sH (hr.mono ⋯) rfl (aB (aA 4) aF))) (aNk 5 (aD (aJ3 (aL aDt (hr.mono ⋯) rfl (aB (aA 1) (aB (aA 5) aF))) (rJ rfl (cF (i:=6) rC.nd (cF (i:=7) rC.nd (cF (i:=8) rC.nd mX))))) (aG (cB (aAa (aL aDs (hr.mono ⋯) rfl (aB (dU (own:=["_law_piece"]) (cap:=[]) (aC yS) aVk rfl rfl (λx h=>aV h) #v[4] rfl (vic (aX (aA 6))) ↑(aW (i:=0) (~~~["_law_piece"]) rfl (Dl rfl) (Dr rfl)) (bC ⋯) ↑#v[c]) (aB (aA 8) (aB (aA 7) aF))))) (aG (cB (cI (cL (aL aDu (hr.mono ⋯) rfl (aB (aA 2) (aB (aA 3) (aB (dO (aB (aA 6) (aB (aA 7) (aB (aA 8) aF)))) (aB (aA 5) aF))))))) (aG (aU jR)) bA)) bA)))))) (aG (aU jR)))))))) ?_;rintro _ R ⟨sc,rfl,q⟩;refine#[rfl,sc,0,rfl,λn0=>#[n0,rfl,λa b c=>#[rfl,λns rs ys r g=>#[aV7,?_]]]];refine#[sc,1,rfl,λn1=>#[n1,rfl,λa b c=>#[ns,rs,ys,r,rfl,g,λt ls zs hz pw=>#[aPn (N:=N) (CG:=CG) (CJ:=CJ),?_]]]];have cl:(mG (sc.map U.n) (some 3) (some 12)).length<=12:=by
  unfold mG;rw[Gg];have:HT.sIx (sc.map U.n).length (sc.map U.n).length (some ((12:Nat):Int))<=12:=by rw[HT.zV];exact Nat.min_le_left ..
  have:HT.sIx (sc.map U.n).length (sc.map U.n).length (some 12)<=12:=this
  lia
 have cm:∀u∈mG (sc.map U.n) (some 3) (some 12),∃n:Int,u=.n n:=λu h=>by
  obtain⟨n,_,rfl⟩:=Aj.mp (Ko (Iz h));exact#[n,rfl]
 have r12:r<=12:=by have:=g.r5;lia
 have sl:=zW g.gs r12;refine#[ns,rs,ys,r,rfl,g,aAl g.gs,λs hs=>?_];subst hs;refine#[by rw[aBj,Ab];lia,?_];show jA _ (spU (plU ns) r.toNat) [] _;rw[aBj];refine dZ (B:=λq:Tk=>some (U.tp [tkU q,.n 0])) (λq hq k hk=>hk) ?_;rw[Bm,Dk];refine#[kv0 (spS ns r.toNat),by unfold kv0;rw[Ba];rfl,by rw[aGl];exact aRh ns r.toNat,?_];refine#[sc,2,rfl,λn2=>#[sc,rfl,by show 1+_<=10000;lia,?_]];show iG (iC 4) _ _ ([U.n n2]++mG (sc.map U.n) (some 3) (some 12)) [.sh (.op (aJo K sc)),.sh (wD ns rs ys r),.sh (rR N CG CJ ns rs t zs 97 r ls),.sh (.op #v[i].fz),.no,.no,.no,.no,.no];refine bG (λl ρ=>(∀u∈l,∃n:Int,u=.n n)/\∃a b c d e:Sl,ρ=[.sh (.op (aJo K sc)),.sh (wD ns rs ys r),.sh (rR N CG CJ ns rs t zs 97 r ls),.sh (.op #v[i].fz),a,b,c,d,e]) ?_ ?_ #[λu hu=>?_,_,_,_,_,_,rfl]
 ·rintro ρ ⟨_,a,b,c,d,e,rfl⟩;exact q
 ·rintro u l ρ ⟨hl,s4,s5,s6,s7,s8,rfl⟩ ih;obtain⟨n,rfl⟩:=hl u Ah;refine#[n,rfl,λa b c=>#[ns,rs,ys,r,rfl,g,λps hs wt lo=>?_]];have pl:=lo.pl;have wl:=lo.wl;have gc:GoodC (lens ps) hs wt:=by
   refine#[by rw[Ab];lia,by rw[Ab];exact lo.sh,lo.h4,λp hp=>by rw[Ab];exact lo.wk p hp,∅,λx hx=>?_];obtain⟨p,hp,rfl⟩:=Aj.mp hx;have h1:=Eg.mpr (lo.pg p hp).1;have h2:=(lo.pg p hp).2.1;exact#[h1,∅]
  refine#[rfl,by rw[Ab];lia,dZ (B:=λp:List Tk=>some (U.n (p.length:Nat))) (λp hp k hk=>?_) ?_]
  ·show k (some (.n ((p.map tkU).length:Nat)));rw[Ab];exact hk
  rw[Bm,Dk, <-aEk];refine#[lens ps,wt,hs,rfl,gc,#[nofun,λ_=>?_],λnr l0=>#[λ_=>#[ns,rs,t,zs,97,r,ls,ps,hs,wt,rfl,#[g.gs,aAl g.gs,by have:=g.p6;lia,g.r0,r12,lo,nr],nofun,λ_=>?_],nofun]]
  all_goals
   refine#[λjj s hj hs=>?_,ih _ #[λu hu=>hl u (Af _ hu),_,_,_,_,_,rfl]];match jj,hs with
   |0,rfl=>exact .inr #[_,rfl,λh=>h]
   |1,rfl=>exact .inl aV7
   |2,rfl=>exact .inl aPn
   |3,rfl=>exact .inr ⟨_,rfl,bAt λp hp=>by
     obtain⟨z,_,rfl⟩:=Aj.mp hp;trivial⟩
   |4,rfl=>exact .inl trivial
   |5,_=>exact Ab2 rfl hj
   |6,rfl=>exact .inl (mJ λp _=>aJa p)
   |7,rfl=>exact .inl (mJ λp _=>mJ λ_ _=>trivial)
   |8,rfl=>exact .inl (mJ λp _=>#[trivial,trivial,trivial])
 ·rcases Bd.mp hu with h|h
  ·exact#[_,Ap.mp h]
  ·exact cm u h
def tag:Tm->Nat
 |.num _=>0
 |.take _ _=>1
 |.bin k _ _=>if k then 3 else 2
def aD4(N:Cn):List Addr:=[N.num,N.take,N.bin false,N.bin true]
def aOb(N:Cn):∀t:Tm,(aD4 N)[tag t]? =some (cls N t)
 |.num _=>rfl
 |.take _ _=>rfl
 |.bin false _ _=>rfl
 |.bin true _ _=>rfl
def aJx{N:Cn}(nd:(aD4 N).Nodup){t u:Tm}(h:cls N t=cls N u):tag t=tag u:=by
 have h1:=aOb N t;have h2:=aOb N u;rw[h]at h1;exact(List.getElem?_inj (Ay.mp h1).1 nd).mp (h1.trans h2.symm)
def aPh{N:Cn}(nd:(aD4 N).Nodup)(h:cls N t=N.num):∃n,t=.num n:=by
 have:=aJx nd (u:=.num 0) h;cases t with
 |num=>exact#[_,rfl]
 |take=>cases this
 |bin k=>cases k<;>cases this
def aEb{N:Cn}(nd:(aD4 N).Nodup)(h:cls N t=N.take):∃b ss,t=.take b ss:=by
 have:=aJx nd (u:=.take 0 []) h;cases t with
 |num=>cases this
 |take=>exact#[_,_,rfl]
 |bin k=>cases k<;>cases this
def aW3{N:Cn}(nd:(aD4 N).Nodup)(h:cls N t=N.bin k):∃a b,t=.bin k a b:=by
 have:=aJx nd (u:=.bin k (.num 0) (.num 0)) h;cases t with
 |num=>cases k<;>cases this
 |take=>cases k<;>cases this
 |bin j a b=>cases k<;>cases j<;>first|exact#[a,b,rfl]|cases this
def knS{P:List Value->Prop}(h:us.length=n+1)(k:∀a t,t.length=n->P (a::t)):P us:=by
 cases us with
 |nil=>cases h
 |cons a t=>exact k a t (Kw h)
def kn1{P:List Value->Prop}(h:us.length=1)(k:∀a,P [a]):P us:=knS h λa t ht=>by cases t with|nil=>exact k a|cons=>cases ht
def kn2{P:List Value->Prop}(h:us.length=2)(k:∀a b,P [a,b]):P us:=knS h λa t ht=>kn1 (P:=λt=>P (a::t)) ht λb=>k a b
def kn3{P:List Value->Prop}(h:us.length=3)(k:∀a b c,P [a,b,c]):P us:=knS h λa t ht=>kn2 (P:=λt=>P (a::t)) ht λb c=>k a b c
def kn4{P:List Value->Prop}(h:us.length=4)(k:∀a b c d,P [a,b,c,d]):P us:=knS h λa t ht=>kn3 (P:=λt=>P (a::t)) ht λb c d=>k a b c d
def kn5{P:List Value->Prop}(h:us.length=5)(k:∀a b c d e,P [a,b,c,d,e]):P us:=knS h λa t ht=>kn4 (P:=λt=>P (a::t)) ht λb c d e=>k a b c d e
def kn6{P:List Value->Prop}(h:us.length=6)(k:∀a b c d e f,P [a,b,c,d,e,f]):P us:=knS h λa t ht=>kn5 (P:=λt=>P (a::t)) ht λb c d e f=>k a b c d e f
def kn7{P:List Value->Prop}(h:us.length=7)(k:∀a b c d e f g,P [a,b,c,d,e,f,g]):P us:=knS h λa t ht=>kn6 (P:=λt=>P (a::t)) ht λb c d e f g=>k a b c d e f g
def kb1{fd:Br}(h:us.length=1)(k:∀a,Fh fd #[[a],[]]=pure (ps.zip [a])):Fh fd #[us,[]]=pure (ps.zip us):=kn1 (P:=λus=>Fh fd #[us,[]]=pure (ps.zip us)) h k
def kb2{fd:Br}(h:us.length=2)(k:∀a b,Fh fd #[[a,b],[]]=pure (ps.zip [a,b])):Fh fd #[us,[]]=pure (ps.zip us):=kn2 (P:=λus=>Fh fd #[us,[]]=pure (ps.zip us)) h k
def kb3{fd:Br}(h:us.length=3)(k:∀a b c,Fh fd #[[a,b,c],[]]=pure (ps.zip [a,b,c])):Fh fd #[us,[]]=pure (ps.zip us):=kn3 (P:=λus=>Fh fd #[us,[]]=pure (ps.zip us)) h k
def kb4{fd:Br}(h:us.length=4)(k:∀a b c d,Fh fd #[[a,b,c,d],[]]=pure (ps.zip [a,b,c,d])):Fh fd #[us,[]]=pure (ps.zip us):=kn4 (P:=λus=>Fh fd #[us,[]]=pure (ps.zip us)) h k
def kb6{fd:Br}(h:us.length=6)(k:∀a b c d e f,Fh fd #[[a,b,c,d,e,f],[]]=pure (ps.zip [a,b,c,d,e,f])):Fh fd #[us,[]]=pure (ps.zip us):=kn6 (P:=λus=>Fh fd #[us,[]]=pure (ps.zip us)) h k
def kb7{fd:Br}(h:us.length=7)(k:∀a b c d e f g,Fh fd #[[a,b,c,d,e,f,g],[]]=pure (ps.zip [a,b,c,d,e,f,g])):Fh fd #[us,[]]=pure (ps.zip us):=kn7 (P:=λus=>Fh fd #[us,[]]=pure (ps.zip us)) h k
abbrev GN(K:Ad)(n:Str)(f:Addr):Prop:=Se K Ge n=some (some (.ref f))
abbrev FI(K:Ad)(C:Addr)(n:Str)(f:Addr):Prop:=Fd K (.ref C) n=some (some (.ref f))
abbrev ZN(K:Ad)(n:Str):Prop:=Se K Ge n=some none
abbrev QN(K:Ad)(n:Str)(i:Int)(t:Tok):Prop:=Se K Ge n=some (some (.int i t))
structure FF(K:Ad)(x:Str)(st:Stmt)(f:Addr)(fd:Br):Prop where
 a:GN K x f
 F:Fun K x x st f fd
structure MF(K:Ad)(C:Addr)(x q:Str)(st:Stmt)(f:Addr)(fd:Br):Prop where
 m:Meth K C x f
 F:Fun K x q st f fd
structure CK(K:Ad)(C:Addr)(fs:List Str):Prop where
 c:Cls K C
 na:∀f∈fs,mZ K C f
 ms:Pj K C=true
 kc:Iu K (.ref C)=true
def CK.fl{K:Ad}{C:Addr}(h:CK K C fs):Cfl K C fs:=#[h.c,h.na]
def na0{K:Ad}{C:Addr}:∀f∈([]:List Str),mZ K C f:=λ_ h=>nomatch h
def naS{K:Ad}{C:Addr}{x:Str}{l:List Str}(h:Fd K (.ref C) x=some none)(k:∀f∈l,mZ K C f):∀f∈x::l,mZ K C f:=λf hf=>(Ax.mp hf).elim (λe=>e▸h) (k f)
def mth{K:Ad}{C D f:Addr}{n:Str}(h:Meth K C n f)(g:FI K D n f):Meth K D n f:=#[g,h.fn,h.kp]
def mkO{K:Ad}{C f:Addr}(h:CK K C fs)(g:Meth K C "__init__" f):Mk K C f:=#[h.ms,g.at_,g.fn,h.kc]
def fb1(a:Str){st:Stmt}{f:Addr}{fd:Br}(F:Fun K x q st f fd)(h:∀kV doc pm an ae ct u,Fh #v[k] #[[u],[]]=pure ([a].zip [u]):=by intros;rfl):Binds K fd [a] []:=F.binds λ_ _ _ _ _ _ us hl=>kb1 hl (h _ _ _ _ _ _)
def fb2(a b:Str){st:Stmt}{f:Addr}{fd:Br}(F:Fun K x q st f fd)(h:∀kV doc pm an ae ct u v,Fh #v[k] #[[u,v],[]]=pure ([a,b].zip [u,v]):=by intros;rfl):Binds K fd [a,b] []:=F.binds λ_ _ _ _ _ _ us hl=>kb2 hl (h _ _ _ _ _ _)
def fb3(a b c:Str){st:Stmt}{f:Addr}{fd:Br}(F:Fun K x q st f fd)(h:∀kV doc pm an ae ct u v y,Fh #v[k] #[[u,v,y],[]]=pure ([a,b,c].zip [u,v,y]):=by intros;rfl):Binds K fd [a,b,c] []:=F.binds λ_ _ _ _ _ _ us hl=>kb3 hl (h _ _ _ _ _ _)
def fb4(a b c d:Str){st:Stmt}{f:Addr}{fd:Br}(F:Fun K x q st f fd)(h:∀kV doc pm an ae ct u v y z,Fh #v[k] #[[u,v,y,z],[]]=pure ([a,b,c,d].zip [u,v,y,z]):=by intros;rfl):Binds K fd [a,b,c,d] []:=F.binds λ_ _ _ _ _ _ us hl=>kb4 hl (h _ _ _ _ _ _)
def fb6(a b c d e g:Str){st:Stmt}{f:Addr}{fd:Br}(F:Fun K x q st f fd)(h:∀kV doc pm an ae ct u v y z o p,Fh #v[k] #[[u,v,y,z,o,p],[]]=pure ([a,b,c,d,e,g].zip [u,v,y,z,o,p]):=by intros;rfl):Binds K fd [a,b,c,d,e,g] []:=F.binds λ_ _ _ _ _ _ us hl=>kb6 hl (h _ _ _ _ _ _)
def fb7(a b c d e g i:Str){st:Stmt}{f:Addr}{fd:Br}(F:Fun K x q st f fd)(h:∀kV doc pm an ae ct u v y z o p r,Fh #v[k] #[[u,v,y,z,o,p,r],[]]=pure ([a,b,c,d,e,g,i].zip [u,v,y,z,o,p,r]):=by intros;rfl):Binds K fd [a,b,c,d,e,g,i] []:=F.binds λ_ _ _ _ _ _ us hl=>kb7 hl (h _ _ _ _ _ _)
def vU{CX:CXT}{k:Nat}{f:Addr}{fd:Br}{sp:Sp}(h:∀vs H Q E,¬sp vs H Q E):bJ P w K mg base CX k f fd ps sp:=
 #[λvs H Q E z=>Ab2 z (h vs H Q E),λ_ _ _ H _ _ vs Q E _ _ _ _ z=>Ab2 z (h vs H Q E)]
def aL2{f1 f2:Addr}{g1 g2:Br}(nd:(aD4 N).Nodup)(F1:Fun K "inner" "Term.inner" mL f1 g1)(F2:Fun K "inner" "Paired.inner" jJ f2 g2)
  (cl:∀C,IsC N C->Cls K C) (c5:∀k,Cfl K (N.bin k) ["one","other"])
  (m1:Meth K N.num "inner" f1) (m2:Meth K N.take "inner" f1) (m5:∀k,Meth K (N.bin k) "inner" f2):lQ P w K mg base N 1 "inner" (lR N):=by
 refine#[λC hC=>#[cl C hC,?_]];rcases hC with rfl|rfl|⟨k,rfl⟩
 ·exact#[f1,g1,m1,aC1 F1 (λt h=>by obtain⟨n,rfl⟩:=aPh nd h;rfl),fb1 "self" F1]
 ·exact#[f1,g1,m2,aC1 F1 (λt h=>by obtain⟨b,ss,rfl⟩:=aEb nd h;rfl),fb1 "self" F1]
 ·exact#[f2,g2,m5 k,aMq F2 (c5 k) λt h=>aW3 nd h,fb1 "self" F2]
theorem aCr{f1 f2:Addr}{g1 g2:Br}(nd:(aD4 N).Nodup)(F1:Fun K "takes" "Term.takes" mO f1 g1)(F2:Fun K "takes" "Take.takes" mK f2 g2)(cl:∀C,IsC N C->Cls K C)(c2:Cfl K N.take ["back","steps"])
  (m1:∀C,IsC N C->C≠N.take->Meth K C "takes" f1) (m2:Meth K N.take "takes" f2) (dF:#v[w]) (T:Txt mg):∀d,lQ P w K mg base N (d+1) "takes" (sV N d)
 |0=>⟨λC hC=>⟨cl C hC,by
   have no:∀vs H Q E,¬spV (sV N 0 C) vs H Q E:=λvs H Q E ⟨_,_,_,_,_,_,⟨t,_,_,h,_⟩,_⟩=>Ab2 (aEa t) ∅;by_cases e:C=N.take
   ·subst e;exact#[f2,g2,m2,vU no,fb1 "self" F2]
   ·exact#[f1,g1,m1 C hC e,vU no,fb1 "self" F1]⟩⟩
 |d+1=>⟨λC hC=>⟨cl C hC,by
   by_cases e:C=N.take
   ·subst e;exact#[f2,g2,m2,aMn F2 c2 λt h=>aEb nd h,fb1 "self" F2]
   ·exact#[f1,g1,m1 C hC e,aMx F1 (λt h b ss z=>e (by rw[<-h,z];rfl)) dF (aCr nd F1 F2 cl c2 m1 m2 dF T d) T,fb1 "self" F1]⟩⟩
theorem aCp{f1:Addr}{g1:Br}(F1:Fun K "depth" "Term.depth" jK f1 g1)(cl:∀C,IsC N C->Cls K C)(m1:∀C,IsC N C->Meth K C "depth" f1)(dF:#v[w])(T:Txt mg):∀d,lQ P w K mg base N (d+1) "depth" (aF7 N ht d)
 |0=>#[λC hC=>#[cl C hC,f1,g1,m1 C hC,vU (λvs H Q E ⟨_,_,_,_,_,_,⟨t,_,_,h,_⟩,_⟩=>Ab2 (aEa t) ∅),fb1 "self" F1]]
 |d+1=>#[λC hC=>#[cl C hC,f1,g1,m1 C hC,aMu F1 dF (aCp F1 cl m1 dF T d) T,fb1 "self" F1]]
theorem aCq{f1:Addr}{g1:Br}(F1:Fun K "parts" "Term.parts" jL f1 g1)(cl:∀C,IsC N C->Cls K C)(m1:∀C,IsC N C->Meth K C "parts" f1)(dF:#v[w])(T:Txt mg):∀d,lQ P w K mg base N (d+1) "parts" (aF7 N rT d)
 |0=>#[λC hC=>#[cl C hC,f1,g1,m1 C hC,vU (λvs H Q E ⟨_,_,_,_,_,_,⟨t,_,_,h,_⟩,_⟩=>Ab2 (aEa t) ∅),fb1 "self" F1]]
 |d+1=>#[λC hC=>#[cl C hC,f1,g1,m1 C hC,aMw F1 dF (aCq F1 cl m1 dF T d) T,fb1 "self" F1]]
theorem aN7{f:Addr}{fd:Br}(F:Fun K "first_fault" "first_fault" lD f fd)(m:mg "first_fault"=some (.ref f))(dF:#v[w])(aJ5:lQ P w K mg base N 4 "own_fault" (uV N)):∀d,⇑(d+4) "first_fault" ["term"] (spV (fFF N d))
 |0=>#[_,_,vU (λvs H Q E ⟨_,_,_,_,_,_,⟨t,_,h,_⟩,_⟩=>Ab2 (aEa t) ∅),m,F.kp,fb1 "term" F]
 |d+1=>#[_,_,bAo F (aN7 F m dF aJ5 d) dF aJ5,m,F.kp,fb1 "term" F]
def aL1{f1 f2 f3:Addr}{g1 g2 g3:Br}(nd:(aD4 N).Nodup)(F1:Fun K "own_fault" "Term.own_fault" gQ f1 g1)(F2:Fun K "own_fault" "Number.own_fault" fD f2 g2)(F3:Fun K "own_fault" "Take.own_fault" gP f3 g3)
  (cl:∀C,IsC N C->Cls K C) (c1:Cfl K N.num ["value"]) (c2:Cfl K N.take ["back","steps"])
  (c_within:#v[j]) (aSl:⇑3 "are_steps" ["thing"] (spV aIx)) (T:Txt mg)
  (m1:Meth K N.num "own_fault" f2) (m2:Meth K N.take "own_fault" f3) (m5:∀k,Meth K (N.bin k) "own_fault" f1):lQ P w K mg base N 4 "own_fault" (uV N):=by
 refine#[λC hC=>#[cl C hC,?_]];rcases hC with rfl|rfl|⟨k,rfl⟩
 ·exact#[f2,g2,m1,aMo F2 c1 (λt h=>aPh nd h) c_within T,fb1 "self" F2]
 ·exact#[f3,g3,m2,aMm F3 c2 (λt h=>aEb nd h) c_within aSl T,fb1 "self" F3]
 ·exact#[f1,g1,m5 k,aMv F1,fb1 "self" F1]
def aZy{CR f:Addr}{fd:Br}{k:Nat}{m:Str}{ps:List Str}{sp:Sp}(cl:Cls K CR)(h:Meth K CR m f)(b:Binds K fd ps [])(F:↥k f fd ps sp):Dis P w K mg base CX0 k (·=CR) m ps λ_=>sp:=⟨λC hC=>by
 have hC:C=CR:=hC;subst hC;exact#[cl,f,fd,h,F,b]⟩
def aXd{H:Hp}{a:Addr}{E:XK}(h:SqL K H a (ns.map V.int)):spV (aOq K) [.ref a] H (λv _=>v=.bl true) E:=
 ⟨λ_=>False,λ_=>False,[.op (aJo K ns)],λs=>s=.sh (.b true),#[nofun,nofun,nofun],#[_,_,rfl,#[a,rfl,h.imp (λh=>#[id,h]) λh _=> .inr h],rfl],#[ns,rfl,rfl],λs v H' hs _ r=>by
  subst hs;exact r.1⟩
def aWs{l:W.OpenLaw}{w:Bh}{K:W.Frag}{mg:Str->#v[10]}{fa Cnum Ctake Cb0 Cb1 CG CJ CP f10 f11 f12 f13 f14 f15 f16 f17 f18 f19 f20 f21 f22 f23 f24 f25 f26 f27 f28 f29 f30 f31 f32 f33 f34 f35 f36 f37 f38 f39 f40 f41 f42 f43 f44 f45 f46 f47 f48 f49 f50 f51 f52 f53 f54 f55 f56 f57 f58 f59 f60 f61 f62 f63 f64 f65 f66 f67 f68 f69 f70 f71 f72 f73:Addr}(X:K.In h)(G:h.Ns Ge mg)(hfa:mg "law"=some (.ref fa))
  (aCnum:GN K "Number" Cnum) (aCtake:GN K "Take" Ctake) (aCb0:GN K "Added" Cb0) (aCb1:GN K "Multiplied" Cb1)
  (aCG:GN K "Grid" CG) (aCJ:GN K "Job" CJ) (aCP:GN K "Paper" CP) (F10:FF K "is_whole" uY f10 g10)
  (F11:FF K "is_within" tH f11 g11) (F12:FF K "is_rim" aBf f12 g12) (F13:FF K "product" xX f13 g13) (F14:FF K "check_lines" pH f14 g14)
  (F15:FF K "are_steps" oM f15 g15) (F16:FF K "lines_of" rA f16 g16) (F17:FF K "first_fault" lD f17 g17) (F18:FF K "check_term" qY f18 g18)
  (F19:FF K "is_row" wC f19 g19) (F20:FF K "are_rows" qW f20 g20) (F21:FF K "law" yS f21 g21) (F22:FF K "with_line" tK f22 g22)
  (F23:FF K "are_spots" oK f23 g23) (F24:FF K "are_wanted" qX f24 g24) (F25:FF K "are_pieces" mR f25 g25) (F26:FF K "are_below" oH f26 g26)
  (F27:FF K "are_shared_out" kY f27 g27) (F28:FF K "is_hand_count" lX f28 g28) (F29:FF K "are_hands" tG f29 g29) (F30:FF K "is_wait" xW f30 g30)
  (F31:FF K "are_waits" oN f31 g31) (F32:FF K "are_slots" oJ f32 g32) (F33:FF K "waves_ahead" iK f33 g33) (F34:FF K "waves_of" rB f34 g34)
  (F35:FF K "times_of" nP f35 g35) (F36:FF K "with_rows" tL f36 g36) (F37:FF K "last_end" qZ f37 g37) (F38:FF K "walk_times" mU f38 g38)
  (F39:FF K "walk_end" vA f39 g39) (F40:FF K "rows_end" uZ f40 g40) (F41:FF K "_law_cell_at" nO f41 g41) (F42:FF K "_law_tape" tE f42 g42)
  (F43:FF K "_law_draw" tD f43 g43) (F44:FF K "_law_world" jN f44 g44) (F45:FF K "_law_places" lC f45 g45) (F46:FF K "_law_spots" mQ f46 g46)
  (F47:FF K "_law_job" kW f47 g47) (F48:FF K "_law_loose" jM f48 g48) (F49:FF K "_law_clock" fG f49 g49) (F50:FF K "_law_steady" iJ f50 g50)
  (F51:FF K "_law_right" fH f51 g51) (F52:MF K Cnum "inner" "Term.inner" mL f52 g52) (F53:MF K Cnum "takes" "Term.takes" mO f53 g53) (F54:MF K Cnum "depth" "Term.depth" jK f54 g54)
  (F55:MF K Cnum "parts" "Term.parts" jL f55 g55) (F56:MF K Cb0 "own_fault" "Term.own_fault" gQ f56 g56) (F57:MF K Cnum "__init__" "Number.__init__" jG f57 g57) (F58:MF K Cnum "own_fault" "Number.own_fault" fD f58 g58)
  (F59:MF K Ctake "__init__" "Take.__init__" lW f59 g59) (F60:MF K Ctake "takes" "Take.takes" mK f60 g60) (F61:MF K Ctake "own_fault" "Take.own_fault" gP f61 g61) (F62:MF K Cb0 "__init__" "Paired.__init__" jH f62 g62)
  (F63:MF K Cb0 "inner" "Paired.inner" jJ f63 g63) (F64:MF K CG "__init__" "Grid.__init__" lV f64 g64) (F65:MF K CG "lines" "Grid.lines" qT f65 g65) (F66:MF K CG "places_many" "Grid.places_many" iT f66 g66)
  (F67:MF K CJ "__init__" "Job.__init__" jF f67 g67) (F68:MF K CJ "deep" "Job.deep" qU f68 g68) (F69:MF K CG "all_places" "Grid.all_places" jE f69 g69) (F70:MF K CG "has_place" "Grid.has_place" gO f70 g70)
  (F71:MF K CJ "all_spots" "Job.all_spots" iQ f71 g71) (F72:MF K CJ "is_spot" "Job.is_spot" pG f72 g72) (F73:MF K CP "__init__" "Paper.__init__" eV f73 g73) (kCnum:CK K Cnum ["value"])
  (kCtake:CK K Ctake ["back","steps"]) (kCb0:CK K Cb0 ["one","other"]) (kCb1:CK K Cb1 ["one","other"]) (kCG:CK K CG ["sizes","rims"])
  (kCJ:CK K CJ ["taken","grid","term","modulus","rounds","first"]) (kCP:CK K CP ["job","pieces","hands","waits","slots","wanted"]) (e0:FI K Cb1 "__init__" f62) (e1:FI K Ctake "inner" f52)
  (e2:FI K Cb1 "inner" f63) (e3:FI K Cb0 "takes" f53) (e4:FI K Cb1 "takes" f53) (e5:FI K Ctake "depth" f54)
  (e6:FI K Cb0 "depth" f54) (e7:FI K Cb1 "depth" f54) (e8:FI K Ctake "parts" f55) (e9:FI K Cb0 "parts" f55)
  (e10:FI K Cb1 "parts" f55) (e11:FI K Cb1 "own_fault" f56) (nd:[Cnum,Ctake,Cb0,Cb1].Nodup) (z0:ZN K "isinstance")
  (z1:ZN K "int") (z2:ZN K "bool") (z3:ZN K "str") (z4:ZN K "tuple")
  (z5:ZN K "list") (z6:ZN K "len") (z7:ZN K "range") (z8:ZN K "enumerate")
  (z9:ZN K "max") (z10:ZN K "min") (z11:ZN K "sorted") (z12:ZN K "sum")
  (z13:ZN K "set") (z14:ZN K "all") (z15:ZN K "any") (z16:ZN K "zip")
  (z17:ZN K "abs") (z18:ZN K "dict") (q0:QN K "MOST_PIECES" 120 t0) (q1:QN K "MOST_HANDS" 4 t1)
  (q2:QN K "MOST_WAITS" 400 t2) (q3:QN K "GREATEST_SLOT" 119 t3) (q4:QN K "GREATEST_NUMBER" 1000000000000 t4) (q5:QN K "GREATEST_BACK" 3 t5)
  (q6:QN K "GREATEST_STEP" 9 t6) (q7:QN K "MOST_STEPS" 3 t7) (q8:QN K "MOST_DEPTH" 12 t8) (q9:QN K "MOST_PARTS" 60 t9)
  (q10:QN K "MOST_TAKES" 6 t10) (q11:QN K "GREATEST_MODULUS" 1000000000 t11) (q12:QN K "MOST_ROUNDS" 12 t12) (q13:QN K "MOST_SPOTS" 120 t13)
  (q14:QN K "GREATEST_FIXED" 1000000000 t14) (q15:QN K "MOST_LINES" 3 t15) (q16:QN K "GREATEST_SIZE" 9 t16) (q17:QN K "MOST_PLACES" 40 t17)
  :∃fd:Br,(∀(s:Yz)(v:Value),We s fd #[[v],[]] [("_law_script",v)])/\∀base:Heap,K.In base->base.Ns Ge mg->bJ l.prog w K mg base CX0 18 fa fd ["_law_script"] (spV (aOq K)):=by
 have m:∀{n:Str}{f:Addr},GN K n f->mg n=some (.ref f):=λh=>Ir X G h;have mn:∀{n:Str},W.nsIn K Ge n=some none->mg n=none:=λh=>W.mg_none_of X G h;have e:=hfa.symm.trans (m F21.a);cases e;have T:Txt mg:=#[mn z0,mn z1,mn z2,mn z3,mn z4,mn z5,mn z6,mn z7,mn z8,mn z9,mn z10,mn z11,mn z12,mn z13,mn z14,mn z15,mn z16,mn z17,mn z18,#[_,Ir X G q0],#[_,Ir X G q1],#[_,Ir X G q2],#[_,Ir X G q3],#[_,Ir X G q4],#[_,Ir X G q5],#[_,Ir X G q6],#[_,Ir X G q7],#[_,Ir X G q8],#[_,Ir X G q9],#[_,Ir X G q10],#[_,Ir X G q11],#[_,Ir X G q12],#[_,Ir X G q13],#[_,Ir X G q14],#[_,Ir X G q15],#[_,Ir X G q16],#[_,Ir X G q17]];have F0:=F21.F;obtain⟨⟨_,_,y1,y2,y3,y4,y5,y6,_,rfl,_⟩,_⟩:=F0;refine#[W.fnOf "law" "law" (jC yS) (gF yS) (aC yS) .none y1 y2 y3 y4 y5 y6,λs v=> .of_eq rfl,λbase _ _=>?_];have cal:∀{CX:CXT}{k:Nat}{f:Addr}{fd:Br}{n:Str}{st:Stmt}{ps:List Str}{sp:Sp},FF K n st f fd->bJ l.prog w K mg base CX k f fd ps sp->Binds K fd ps []->Cal l.prog w K mg base CX k n ps sp:=λF h b=>#[_,_,h,m F.a,F.F.kp,b];have dd:=@aZy l.prog w K mg base;let N:Cn:=#[Cnum,Ctake,λk=>match k with|false=>Cb0|true=>Cb1];have nd:(aD4 N).Nodup:=nd;have c5:∀k,CK K (N.bin k) ["one","other"]:=λk=>by
  match k with
  |false=>exact kCb0
  |true=>exact kCb1
 have cl:∀C,IsC N C->Cls K C:=λC hC=>by
  rcases hC with rfl|rfl|⟨k,rfl⟩
  ·exact kCnum.c
  ·exact kCtake.c
  ·exact(c5 k).c
 have D_i:lQ l.prog w K mg base N 1 "inner" (lR N):=aL2 nd F52.F F63.F cl (λk=>(c5 k).fl) F52.m (mth F52.m e1) (λk=>by
  match k with
  |false=>exact F63.m
  |true=>exact(mth F63.m e2))
 have D_t:=aCr (P:=l.prog) (w:=w) (base:=base) nd F53.F F60.F cl kCtake.fl (λC hC ne=>by
  rcases hC with rfl|rfl|⟨k,rfl⟩
  ·exact F53.m
  ·exact Ab2 rfl ne
  ·match k with
   |false=>exact(mth F53.m e3)
   |true=>exact(mth F53.m e4)) F60.m D_i T 8
 have D_d:=aCp (P:=l.prog) (w:=w) (base:=base) F54.F cl (λC hC=>by
  rcases hC with rfl|rfl|⟨k,rfl⟩
  ·exact F54.m
  ·exact(mth F54.m e5)
  ·match k with
   |false=>exact(mth F54.m e6)
   |true=>exact(mth F54.m e7)) D_i T 8
 have D_p:=aCq (P:=l.prog) (w:=w) (base:=base) F55.F cl (λC hC=>by
  rcases hC with rfl|rfl|⟨k,rfl⟩
  ·exact F55.m
  ·exact(mth F55.m e8)
  ·match k with
   |false=>exact(mth F55.m e9)
   |true=>exact(mth F55.m e10)) D_i T 8
 have c10:=cal F10 (aQc F10.F T) (fb1 _ F10.F);have c11:=cal F11 (aMy F11.F c10) (fb3 _ _ _ F11.F);have c15:=cal F15 (aP9 F15.F c11 T) (fb1 _ F15.F);have D_f:lQ l.prog w K mg base N 4 "own_fault" (uV N):=aL1 nd F56.F F58.F F61.F cl kCnum.fl kCtake.fl c11 c15 T F58.m F61.m (λk=>by
  match k with
  |false=>exact F56.m
  |true=>exact(mth F56.m e11))
 have c17:=aN7 F17.F (m F17.a) D_i D_f 8;have c16:=cal F16 (aJc F16.F D_t T) (fb1 _ F16.F);have c18:=cal F18 (aMk F18.F ⋯ c17 c16 D_t D_d D_p T) (fb1 _ F18.F);have M_Number:MkB l.prog w K mg base (N.num) "Number" ["value"]:=#[#[_,_,aP5 F57.F kCnum.fl,mkO kCnum F57.m,m aCnum,(fb2 _ _ F57.F)]];have M_Take:MkB l.prog w K mg base (N.take) "Take" ["back","steps"]:=#[#[_,_,aP2 F59.F kCtake.fl,mkO kCtake F59.m,m aCtake,(fb3 _ _ _ F59.F)]];have M_Added:MkB l.prog w K mg base (N.bin false) "Added" ["one","other"]:=#[#[_,_,aGw F62.F kCb0.fl,mkO kCb0 F62.m,m aCb0,(fb3 _ _ _ F62.F)]];have M_Multiplied:MkB l.prog w K mg base (N.bin true) "Multiplied" ["one","other"]:=#[#[_,_,aGw F62.F kCb1.fl,mkO kCb1 (mth F62.m e0),m aCb1,(fb3 _ _ _ F62.F)]];have c12:=cal F12 (aPz F12.F c11 T) (fb1 _ F12.F);have c13:=cal F13 (aTf F13.F) (fb1 _ F13.F);have c14:=cal F14 (aPu F14.F c11 c12 T) (fb2 _ _ F14.F);have c19:=cal F19 (aP0 F19.F c11 T) (fb3 _ _ _ F19.F);have c20:=cal F20 (aJb F20.F c19 T) (fb4 _ _ _ _ F20.F);have D_lines:=dd kCG.c F65.m (fb1 _ F65.F) (aP3 F65.F kCG.fl T);have D_many:=dd kCG.c F66.m (fb1 _ F66.F) (aTe F66.F kCG.fl c13);have D_deep:=dd kCJ.c F68.m (fb1 _ F68.F) (aTa F68.F #[kCJ.c,λf hf=>kCJ.na f (by rw[Ap.mp hf];exact Ah)] T);have M_Grid:MkU l.prog w K mg base 5 CG "Grid" ["self","sizes","rims"] aIs:=#[#[_,_,aPw F64.F kCG.fl c14 c13 T,mkO kCG F64.m,m aCG,(fb3 _ _ _ F64.F)]];have M_Job:MkU l.prog w K mg base 14 CJ "Job" ["self","grid","term","modulus","rounds","first"] (aIt N CG):=#[#[_,_,aP1 F67.F kCJ.fl c18 c16 c11 c20 D_t D_lines D_many D_deep T,mkO kCJ F67.m,m aCJ,(fb6 _ _ _ _ _ _ F67.F)]];have c22:=cal F22 (aTk F22.F T) (fb2 _ _ F22.F);have D_allp:=dd kCG.c F69.m (fb1 _ F69.F) (aS5 F69.F kCG.fl c22 T);have D_alls:=dd kCJ.c F71.m (fb1 _ F71.F) (aS6 (N:=N) F71.F kCJ.fl D_allp T);have D_has:=dd kCG.c F70.m (fb2 _ _ F70.F) (aXi F70.F kCG.fl c11 D_lines T);have D_isp:=dd kCJ.c F72.m (fb2 _ _ F72.F) (aMl (N:=N) F72.F kCJ.fl c11 D_has T);have c23:=cal F23 (aPs F23.F D_isp T) (fb2 _ _ F23.F);have c24:=cal F24 (aS8 F24.F c23 T) (fb2 _ _ F24.F);have c25:=cal F25 (aS7 F25.F c23 T) (fb2 _ _ F25.F);have c26:=cal F26 (aPt F26.F c11 T) (fb2 _ _ F26.F);have c27:=cal F27 (aMs F27.F c26 T) (fb2 _ _ F27.F);have c28:=cal F28 (aPx F28.F c11 T) (fb1 _ F28.F);have c29:=cal F29 (aPy F29.F c27 c28 T) (fb2 _ _ F29.F);have c30:=cal F30 (aTi F30.F c26 T) (fb2 _ _ F30.F);have c31:=cal F31 (aQb F31.F c30 T) (fb2 _ _ F31.F);have c32:=cal F32 (aP7 F32.F c11 D_alls c23 T) (fb2 _ _ F32.F);have M_Paper:MkU l.prog w K mg base 7 CP "Paper" ["self","job","pieces","hands","waits","slots","wanted"] (aIv l.prog w N CG CJ):=#[#[_,_,aMp F73.F kCP.fl c25 c29 c31 c32 c24 T,mkO kCP F73.m,m aCP,(fb7 _ _ _ _ _ _ _ F73.F)]];have c33:=cal F33 (aPr F33.F T) (fb2 _ _ F33.F);have c34:=cal F34 (bAp F34.F c33 T) (fb2 _ _ F34.F);have c35:=cal F35 (aQa F35.F c34 T) (fb2 _ _ F35.F);have c36:=cal F36 (aQe F36.F T) (fb2 _ _ F36.F);have c37:=cal F37 (aTd F37.F T) (fb1 _ F37.F);have c38:=cal F38 (aMz F38.F kCP.fl c35 c36 T) (fb1 _ F38.F);have c39:=cal F39 (aTj F39.F c38 c37 T) (fb1 _ F39.F);have c40:=cal F40 (aTg F40.F c35 c36 c37 c27 T) (fb3 _ _ _ F40.F);have c41:=cal F41 (aS9 F41.F T) (fb2 _ _ F41.F);have c42:=cal F42 (aTh F42.F T) (fb1 _ F42.F);have c43:=cal F43 (aTb F43.F) (fb2 _ _ F43.F);have c44:=cal F44 (aQd F44.F c43 T) (fb1 _ F44.F);have c45:=cal F45 (aMr F45.F T) (fb1 _ F45.F);have c46:=cal F46 (aP8 F46.F c45 T) (fb1 _ F46.F);have c47:=cal F47 (aTc F47.F M_Number M_Take M_Added M_Multiplied M_Grid M_Job c43 c45 T) (fb2 _ _ F47.F);have c48:=cal F48 (aP4 F48.F c43 c46 T) (fb2 _ _ F48.F);have c49:=cal F49 (aPv F49.F T) (fb3 _ _ _ F49.F);have c50:=cal F50 (aMt F50.F kCP.fl T) (fb2 _ _ F50.F);have c51:=cal F51 (aP6 F51.F M_Paper c38 c39 c40 c50 c43 T) (fb4 _ _ _ _ F51.F);exact aXj F21.F c41 c42 c44 c47 c46 c48 c49 c51 T
def aZg{l:W.OpenLaw}{q:An}{d:DefRec}{K:Params->W.Frag}(hn:l.most=some 63)(hdf:d.params.defaults=[])
  (hY:∀(w:Bh)(h:Heap),YP w h->(K w.params).In h)
  (F:∀(w:Bh)(mg:Str->#v[10])(fa:Addr)(h:Heap),(K w.params).In h->h.Ns Ge mg->mg d.name=some (.ref fa)->
   ∃fd:Br,(∀(s:Yz)(u:Value),We s fd #[[u],[]] [("_law_script",u)])/\∀base:Heap,(K w.params).In base->base.Ns Ge mg->bJ l.prog w (K w.params) mg base CX0 18 fa fd ["_law_script"] (spV (aOq (K w.params)))):
  W.WalkO q loose XP YP l.row.toRowW d [] (λf vs=>Vv f vs):=
 L2.aUx (n:=63) (k:=18) (x:="_law_script") (CX:=λ_=>CX0) (sp:=λw=>spV (aOq (K w.params))) hn ⋯ hdf #[rfl,⋯,⋯] hY F (λ_ _ _ _ _ _ hS=>aXd hS) λ_ _ _ _ _ z=>z
end Q
structure PySem.W.Fast:Prop where
 (tw17172804885464501016 tw17619793218627558438 tw15846265093653795102 tw7877754776571817838 tw16552900857386377638 tw13076253586117909646 tw7298733482388850880 tw1529005664432392363 tw6073771940268125971 tw8879531905273410469 tw2094082410472158362 tw164480123980890104 tw8968909335744835744 tw9216041265909379441 tw13701525227563487611 tw15154273699120780002 tw539186666729104141 tw1843134084632132339 tw7146869348974221798 tw2574694849136800281 tw17652101405788015333 tw8321217464972788656 tw9337391756005977673 tw17895761893826561536 tw15394483228322695758 tw10270485748689766902 tw1581202466970178570 tw1880712459739173072 tw15385224300841678681 tw9302471746809669967 tw18415697864331208563 tw6728984222846992278 tw12517434174324958400 tw4691703168345010573 tw5834708477060878932 tw17859764693934078891 tw6935049999275116509 tw15379353426048819865 tw2717485777598532598 tw16031733875713848193 tw8409497971844101740 tw6516255907879409851 tw12376121212843614895 tw16443824552947773036 tw13667665079072649535 tw12134971021671215099 tw8735629613388210513 tw2696407666667347571 tw18276946264624842079 tw1960690961536386787 tw16135889937002244845 tw3416997815215147985 tw12480013258259187167 tw13832237048327867169 tw292216458718239359 tw6095849848359591141 tw10314590522036004349 tw9043194993841914811 tw4123405440768341164 tw15632500257557379756 tw11245855783654086069 tw10061338641385712370 tw13002206865015881732 tw16592417706375605725 tw5697917235889650461 tw4659031029325777657 tw6380547919495408473 tw17252037276108105050 tw14373323940072522525 tw2226139388662075041 tw16819319705302330301 tw5295523509045731524 tw1186203189620921622 tw8654705031808223772 tw9902682055603851977 tw4028364386771908404 tw13307667079669751546 tw12308766101411315979 tw525896328259494203 tw6318124103552842790 tw17172276709930091152 tw5368724392034050077 tw9041566908245334452 tw12766016489651277435 tw8879083372811626590 tw7796099335317732053 tw7731382883322794865 tw15162134956566369750 tw10919148343218005589 tw13447037651766242256 tw11309899161747951807 tw5968433539090050296 tw17481170914510422354 tw1166293093851674099 tw16744855525411981483 tw13771357620264564617 tw18158771789138731280 tw12778019899485668963 tw6975408026270677579 tw7802535673039856837 tw16963248671522800573 tw1400072692908903082 tw8027166236838610371 tw7992939591469189114 tw4714033901263455291 tw6748789902957759470 tw12498388541965193407 tw9780355593491032774 tw8543926183514036063 tw5563862664848863025 tw6809369687445204630 tw17373724917191746298 tw15809548349738876785 tw12290769008831956379 tw5005045652894040933 tw17167491592655433756 tw9239372443965520510 tw17077249686386632768 tw704570372727193496 tw12730300814426912147 tw9589947021620394203 tw3941490075747326550 tw13430498334996250776 tw3712639434298346167 tw16524718210995179777 tw14231613479575010226 tw13892015230683801996 tw16141248042907601267 tw3572955307772608631 tw3067539066064779963 tw5801801949041336813 tw5788093366870603178 tw13635537771886880269 tw6612101395889768144 tw14062017606388952230 tw8346572254620355829 tw14289006648900300963 tw11441120916284491337 tw14637496938757780899 tw2825696134422222501 tw10508880065883496724 tw1763901165796550009 tw456861769414298274 tw1294537305054159281 tw12223043665718557403 tw13480853891205779112 tw3304607769956296929 tw5737663092424457028 tw7210293966055637869 tw14528855629589637150 tw12093646172649490637 tw16317728593568447841 tw9086264202341432512 tw3074270998026265824 tw2431466673597182791 tw7878832374105269662 tw18219351197159127143 tw7563896451343471337 tw9648316748580855133 tw9825972480434481328 tw11431382876706141680 tw5302033539752161204 tw13596742905252113003 tw10899706876937493132 tw10768750915522584909 tw5867427277492272290 tw4175558800470983822 tw9884383729441189170 tw385679356517863914 tw9684519193229199911 tw10516598993932392807 tw18379897198439072335 tw10983961208833365324 tw9461920737627015316 tw12738623441737138213 tw5576441765696151057 tw8824209139620317095 tw10339095279726577339 tw9630583947443130022 tw11633866345665108045 tw10507352779181824977 tw6164604025690163252 tw16301771473195121252 tw8568438022809555359 tw8612565032574008658 tw8430167230361230737 tw15461587300007913693 tw5086515267375860907 tw15750940355804207401 tw4103483896854339011 tw5165132325493743766 tw6149624735999937205 tw9809666764177442798 tw1008170793688028605 tw18039433404804407950 tw2388955839339694993 tw4051507054063654557 tw5452068978307442840 tw2584818396047469368 tw16251787792748198597 tw13735425536540630682 tw11964222678031118222 tw12185210249036955579 tw298378897434818066 tw9273463920698484844 tw4043118843107769291 tw7774256059245225360 tw7611347357868157834 tw18409512648256151495 tw2035442995031231814 tw1264431639926860724 tw2398991272358036076 tw10420100159838822114 tw10067021374702680048 tw4364418088476454548 tw812356715401399515 tw15920348910191134845 tw6175226824340941163 tw10276260081221051901 tw2542228635462197122 tw4256955182457623812 tw10085070256363802362 tw14759872518188757625 tw2612497275866747126 tw13735420043960475747 tw14783796760495019638 tw6002334175155162086 tw8963244773420407419 tw7951247611460866502 tw7010668178409455530 tw15873371332409537844 tw15055608540833459762 tw7457802117536928691 tw10673257942424779467 tw6058635769212451160 tw17404626210487620786 tw15426123992228761554 tw7167040229318784026 tw351908289487911352 tw1395759487371025606 tw10537610565192172037 tw18196282745635860819 tw11784442004337668955 tw7654781660479170100 tw13979671642845425822 tw10304592662463771608 tw3824964636833911110 tw7511780974652636838 tw9034077906455821878 tw7661743418283232269 tw7346049436715623603 tw3317366777277767492 tw13650006532268837011 tw2220372924776572071 tw371763402473282219 tw14197179768363846405 tw6132069235758086894 tw4358124103580733114 tw1816012872183419960 tw17011822365576844685 tw8953097899241456618 tw6969036140399971606 tw12074345524018331289 tw315210150482120461 tw11444377483404678570 tw1060307154074433347 tw7022263577729011727 tw16207215547706418410 tw3002789057672255874 tw16415904042438270473 tw11765726464518468926 tw16012316942087094519 tw2544086904504060451 tw9297327859158919432 tw2040391640647442142 tw5894712193764415324 tw8109686488494211578 tw1683419951839026204 tw10114004060014149937 tw7172593762156928176 tw1639001642967549620 tw7699879003546289772 tw2970514868615778310 tw15868392178191960278 tw12607228786999646933 tw11072379289724215622 tw1703445257168451448 tw14446493631109056421 tw12440739071615546770 tw6634703340730546026 tw17433082113988359686 tw17060933362486082447 tw3529988585646035061 tw17858276001862413883 tw10176656343159470042 tw16349688080658404341 tw1703986077394902203 tw10444714133213198691 tw8969686380497623499 tw236106036919665748 tw1760047918352250826 tw13857391483679437236 tw69906423775119646 tw14891523986358606914 tw4010997047422143740 tw17920706207806893028 tw17236777737647376230 tw1251986288207521903 tw6262712087638907806 tw1137726015540328977 tw7693227059055285409 tw6754990268025141969 tw6485514915752043569 tw2153832252970055427 tw16612627766292492082 tw15983172228912846448 tw10801710637139412929 tw13971396722040837063 tw10959352843332713985 tw4570560407118378795 tw10930060953586570698 tw2316136263732348065 tw3041192654277307501 tw13756385768908926555 tw4961008384976378704 tw14082216428419210086 tw1037153783716080444 tw17083721996442337039 tw8621688764810266579 tw4299417702860784662 tw16969868097688135017 tw14086700516034409872 tw9396280884311935036 tw8108949965290570208 tw12110731231703751983 tw8081650966353704960 tw4452581004210971707 tw5871626006562834224 tw3187173179053143963 tw15395746441030972616 tw7267228614515636283 tw6519236523542247736 tw4429831930883257950 tw3582258342819784953 tw3323758619240945925 tw203662633874914974 tw17133608831868889318 tw16400895504208139666 tw11912863672126635660 tw6541805911794956400 tw6516604477245667983 tw3547297614023234273 tw2151075175741335363 tw16909073117408819645 tw16204212071141757863 tw9499666028971084265 tw9151251222334959291 tw4842074119271299152 tw16792854303212449256 tw11743597312802429797 tw237941253555758622 tw14033185856685432301 tw15828562113411388812 tw8450068228631189241 tw4415276254134453543 tw12317946789580864601 tw8994764296886720336 tw2527840022610135562 tw12083769055060673548 tw18325082074884276313 tw10657603655852560585 tw6234161267117566382 tw2616094781055877440 tw2079255928225189634 tw4237992116051705746 tw4414280713857395823 tw17304933998894263202 tw10698380602473651184 tw12621698889165986477 tw351610580062612005 tw14747847818944913489 tw10590621705641848985 tw7842817209808678353 tw15221960878522698264 tw9531090666177211321 tw17067216821926852202 tw9661315442574021074 tw9095747941851614380 tw4406573159194395900 tw11389059208174921911 tw18003335257703535001 tw17175056862139229108 tw2127609209991095343 tw18304975700588466829 tw4043768520075874309 tw2729250218736837551 tw17798094325978681315 tw384956728891246707 tw13068521327022916030 tw8305511235431379606 tw9237833255159672767 tw4873855543094566541 tw11183023240340344019 tw15024117469017025010 tw10666886937306985316 tw9534563168213410409 tw7309207857648811721 tw166040407963532578 tw12616869258948631229 tw15448311573285160222 tw6142556990397941048 tw4107931281554255453 tw4726072607296694286 tw14765567486693197169 tw16179530983913325459 tw11763906256137315140 tw9859448921824326185 tw17293174818942479447 tw4983448713555622663 tw3678269615083658826 tw16382762212416435415 tw1034960823073719398 tw5983828064962671235 tw5760691337508483661 tw4480975195142699520 tw3435080531734406496 tw1676615667988506186 tw16681064291457343381 tw14762760460362377334 tw14511743937068471250 tw5983485879337894468 tw9384035133205017222 tw9350240621632862029 tw3297638304753827184 tw2484015909815310386 tw16599105163768854578 tw15734906713843496991 tw2477745440438854054 tw16526110414577468186 tw15491661617989571260 tw11300249882568933208 tw168505488843938454 tw8936174393002188521 tw363965069201781810 tw697850535041375204 tw6028775882245964292 tw1478228048749721917 tw1186845671087881165 tw10555825320526156454 tw6214463039944093497 tw12296029849198246821:True)
open PySem PySem.W PyProof.Rows
set_option maxRecDepth 100000 in
set_option maxHeartbeats 0 in
theorem PySem.Challenge.cw_slanttiles_k72_whole_waits_only_delay_holds : PySem.Challenge.rw_slanttiles_k72_whole_waits_only_delay.Holds := by
  w_on; o_law; k_head; (case hw => w_witness2)
  k_fill
  refine Q.aZg (l := PySem.Challenge.rw_slanttiles_k72_whole_waits_only_delay) rfl rfl (fun w h Y => PySem.W.kIn_of Y) ?F
  case F =>
    intro w mg fa h KY G hmg
    apply Q.aWs KY G hmg
    case aCnum | aCtake | aCb0 | aCb1 | aCG | aCJ | aCP | e0 | e1 | e2 | e3 | e4 | e5 | e6 | e7 | e8 | e9 | e10 | e11 | z0 | z1 | z2 | z3 | z4 | z5 | z6 | z7 | z8 | z9 | z10 | z11 | z12 | z13 | z14 | z15 | z16 | z17 | z18 | q0 | q1 | q2 | q3 | q4 | q5 | q6 | q7 | q8 | q9 | q10 | q11 | q12 | q13 | q14 | q15 | q16 | q17 => change _ = _; k_is
    case F52 | F53 | F54 | F55 | F56 | F57 | F58 | F59 | F60 | F61 | F62 | F63 | F64 | F65 | F66 | F67 | F68 | F69 | F70 | F71 | F72 | F73 => exact ⟨⟨by k_is, by k_is, by k_is⟩, L2.aO4 (by k_is) (by k_is) (by k_is)⟩
    case kCnum => exact ⟨⟨by k_is, by k_is, by k_is, by k_is⟩, Q.naS (by k_is) Q.na0, by k_is, by k_is⟩
    case kCtake | kCb0 | kCb1 | kCG => exact ⟨⟨by k_is, by k_is, by k_is, by k_is⟩, Q.naS (by k_is) (Q.naS (by k_is) Q.na0), by k_is, by k_is⟩
    case kCJ | kCP => exact ⟨⟨by k_is, by k_is, by k_is, by k_is⟩, Q.naS (by k_is) (Q.naS (by k_is) (Q.naS (by k_is) (Q.naS (by k_is) (Q.naS (by k_is) (Q.naS (by k_is) Q.na0))))), by k_is, by k_is⟩
    case nd => decide
    case F10 | F11 | F12 | F13 | F14 | F15 | F16 | F17 | F18 | F19 | F20 | F21 | F22 | F23 | F24 | F25 | F26 | F27 | F28 | F29 | F30 | F31 | F32 | F33 | F34 | F35 | F36 | F37 | F38 | F39 | F40 | F41 | F42 | F43 | F44 | F45 | F46 | F47 | F48 | F49 | F50 | F51 => exact ⟨by change _ = _; k_is, L2.aO4 (by k_is) (by k_is) (by k_is)⟩


