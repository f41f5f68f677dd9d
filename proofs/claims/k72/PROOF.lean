import PyProof.Rows.All
import Wide.All
import OpenK.AllK
import Wide.FinOn
import Lean
import PyProof.EqAt
import PyProof.EqKinds
import PyProof.TupleCall
import PySem.Challenge.RW_slanttiles_k72_whole_waits_only_delay
open PySem renaming wpAny_bind->Aa,wpAny_pure->Ac,wpAny_call_entry->Bl,wpAny_newObj_type->Bp,wpAny_holding->Bq,boot_len->Br,wpAny_callSpecial?_slot->Cc,wpAny_seqItems->Cp,mem_of_lookup->Cq,codeAny_builtin->Da,wpAny_field->De,wpAny_truthy_bool->Dl,wpAny_dictEntries->Ds,sizeLine_eq->Dy,wpAny_specialOf->Eb,wpAny_isInstance->Ed,plainId_quiet->Ee,wpAny_forIn_list->En,wpAny_mono->Es,wpAny_setState_of->Ff,wpAny_updateSeq->Fg,wpAny_Call_Name_kw->Fs,wpAny_setField->Fz,wpAny_attempt->Gj,wpAny_typeNameOfWhole_valiter->Gm,wpAny_typeNameOfWhole_keyiter->Gn,wpAny_setField_rec->Gy,wpAny_typeOf->Hj,wpAny_passesOwn->Hk,wpAny_notOrdered_dict->Hl,wpAny_dictEpoch->Hm,builtinLookup_eq_fast->Hn,wpAny_rule->Hr,wpAny_typeNameOf_valiter->Ib,wpAny_typeNameOf_keyiter->Ic,wpAny_comprehension_free->Ie,wpAny_tupleItemsOf->Ig,wpAny_pyIter_slot->Iq,wpAny_pyIter_list->Ir,isSubtype_tuple_tuple->Iz,wpAny_askSetting->Jj,wpAny_letGo->Jp,typeLookup_type->Jq,codeAny_mono->Kc,wpAny_fieldsOf->Ke,isSubtype_stop->Kf,wpAny_standAt->Ku,wpAny_of_eq->Kv,wpAny_nextOf_list_item->Ld,wpAny_isOneOf_valiter->Lm,wpAny_execs_nil->Lo,call_meets->Lv,wpAny_tryCatch->Mi,wpAny_handled->My,tupleKind_room_in1->Mz,wpAny_assign_Name->Ny,wpAny_eqBool_int->Ot,noFill_tuple_add->Ou,wpAny_throw->Pn,wpAny_richCompare_same_room->Po,putSet_of->Pp,intItems_at->Pt,Within->Pw,wpAny_newTuple->Qg,isSubtype_type->Qh,callType_codes->Qi,wpAny_call->Qt,intKind_is->Qu,wpAny_onRaise->Re,wpAny_newList->Rf,seq_tuple_add->Rg,nums_intItems->Rh,numAt_eq->Ri,call->Rk,wpAny_isTrue_Compare1->Se,wpAny_isOneOf_keyiter->Sf,seqIndex_neg->Sg,exec_Assign_Name_used->Sh,concat_meets->Si,wpAny_updateSeq_pair->Sx,codeAny_call_builtin->Sy,wpAny_setEntries_of->Ts,seqIndex_of->Tt,wpAny_pyIter_tuple->Ug,Shared->Ul,wpAny_storeSet_of->Vd,wpAny_pyIter_enum->Ve,wpAny_Name->Vf,typeIs_int->Vg,eqIsQuiet_byValue->Vh,wpAny_pyIter_zip->Vy,wpAny_execs_cons->Vz,kt_code_dict_new->Wa,entryFor_of_tree->Wb,pushCells_keeps->Xc,codeAny_of_tree->Xd
open List renaming length_map->Ab,mem_cons_of_mem->Af,getElem?_eq_getElem->Ag,mem_cons_self->Ah,mem_of_getElem? ->Ai,size_toArray->Ak,length_append->Al,length_cons->Am,map_map->Au,mem_append_right->Ax,getElem?_map->Ay,replicate->Az,map_cons->Ba,append_nil->Bb,nil_append->Bd,mem_append_left->Bf,range->Bh,lookup_cons->Bk,getD_eq_getElem?_getD->Bo,length_set->Bs,not_mem_nil->Bz,map_append->Ca,append_assoc->Ce,mem_cons->Cr,filterMap_eq_map'->Cu,length_range->Cw,flatten_cons->Dd,length_singleton->Dg,getElem?_append_left->Di,length_replicate->Dn,getElem?_append_right->Dq,getElem?_set_ne->Dr,mem_singleton->Du,sum_cons->Eg,length->Eh,length_drop->Ej,take_of_length_le->El,take_append_drop->Ep,getElem?_eq_none->Er,length_take->Eu,getElem?_replicate->Ey,replicate_succ->Fe,nodup_range->Fh,map_nil->Fm,drop_eq_getElem_cons->Fp,filterMap_cons_some->Fx,filterMap_cons_none->Fy,lookup->Gb,getElem_of_mem->Gc,nodup_nil->Gg,getElem?_set_self->Gi,sublist_flatten_of_mem->Gp,forIn_cons->Gq,find?_cons->Gr,pairwise_map->Gz,flatMap_cons->Ha,mem_of_mem_take->Hh,filter_cons_of_pos->Hx,filter_cons_of_neg->Hy,any_cons->Hz,forIn_nil->Ii,getElem_mem->Im,getElem_inj->Io,mem_of_mem_drop->Iu,getElem?_append->Iv,dropLast_concat_getLast->Iw,nodup_cons->Jd,map_id->Je,map_const'->Jf,map_congr_left->Jg,foldl_cons->Jh,filterMap_cons->Ji,nodup_append->Jv,getElem?_set->Jw,getD->Jx,ext_getElem? ->Jy,pairwise_singleton->Kd,take_length->Kg,perm_middle->Kh,countP_cons->Ki,length_nil->Kr,length_filter_le->Ks,take_succ->Lg,flatten_append->Lh,flatMap_append->Li,zip_cons_cons->Ly,map_replicate->Lz,flatten_replicate_singleton->Md,take_sublist->Mj,take_append_of_le_length->Mu,drop_length->Mv,of_mem_zip->Nq,mem_append->Nr,take_zero->Om,pairwise_iff_getElem->On,mem_of_find?_eq_some->Oo,drop_zero->Oq,length_erase_of_mem->Pc,eq_of_mem_replicate->Pd,map_take->Pj,map_drop->Pk,pairwise_lt_range->Px,length_pos_of_mem->Py,getElem_cons_drop->Pz,drop_of_length_le->Qa,pairwise_flatMap->Qc,map_set->Qd,range_eq_range'->Qr,getElem?_range->Qy,map_filterMap->Rn,getElem?_drop->Ro,forIn_toArray->Rp,filter_append->Rq,filterMap_nil->Rr,foldl_append->Rx,foldl->Ry,Nodup->Rz,zipIdx_cons->Sj,range'_succ->Sk,flatMap_nil->Sm,ext_getElem->So,zipIdx_nil->Th,sum_append->Ti,length_zip->Tj,find?_some->Tn,count_cons->To,map->Up,all_cons->Uq,toArray->Vn,sum_nil->Vo,range'->Wo
open PySem.W renaming Frag->Ad,kia_one->Dt,findIn->Ef,emptyDict->Ek,fnOf->Ex,instObj->Fq,mg_of->Hb,keepIn->Hc,plainGet->Ju,cellsFrom_some->Ka,lookIn->Kp,plainGet_of->Kx,callWith_K->Le,methodObj->Lr,kitx_dict->Ls,hasDictIn->Lu,takerIn->Ml,makesIn->Mm,kitOne->Nb,codeIn->Nd,nsIn->Oy,methodCall_KW->Oz,isFn->Pa,plainOver->Qk,kitx_list->Ql,handedIn->Qv
open PySem.Heap renaming get?_push_of_some->Ae,get?_push_size->Ap,lt_size->Ar,get?_update_self->Bj,get?_update_other->By,size_push->Ck,SameBut->Dv,get?_none_of_le->Lc,ExtBut->Nt
open Nat renaming le_refl->Aj,ne_of_lt->Aw,lt_of_lt_of_le->Be,zero_le->Bg,le_trans->Ci,le_add_right->Co,lt_irrefl->Dp,not_lt_zero->Dz,ne_of_gt->Fc,le_of_lt->Fd,lt_succ_self->Fj,le_succ->Gd,lt_trichotomy->He,lt_succ_of_lt->Hg,zero_add->Ij,le_max_right->Km,strongRecOn->Ky,lt_trans->Kz,le_max_left->La,le_of_succ_le->Mn,lt_or_ge->Mr,min_eq_left->Ob,mod_lt->Pi,lt_of_succ_lt_succ->Qb,succ_pos->Qn,sub_zero->Qo,le_of_eq->Qp,add_comm->Qq,succ_le_succ->Tc,min_eq_right->Td,beq->Ub,shiftRight->Uo,succ_add->Wj,mul_comm->Wk,min_self->Wm,le_total->Wn
open Bool renaming false_ne_true->An,false_eq_true->Cm,and_false->Hq,and_eq_true->Ip,not_false->Jn,false_and->Jo,not_true->Mc,eq_iff_iff->Tq,true_and->Uz,or_false->Va,and_true->Vb
open PySem.Value renaming ref->Ao,none->Bn,int->Ec,isInt_shape->Ez,type->Ge,bool->Jr,isInt->Jz,str->Na,float->Qj,isStrOf->Tv,builtin->Tw,bytes->Vk
open Array renaming length_toList->As,getElem?_eq_getElem->Bm,getElem?_toList->Cj,forIn_toList->Et,getD->Iy,getElem?_eq_none->Kl,toList_push->Rv,toList->Vc,ext'->Xb
open PySem.PassesOwn renaming never->Bc
open Option.some renaming inj->Bi
open PySem.Around renaming under_plainId->Bt,under->Pm
open PySem.Builtin.SmallTypes renaming ownedTupleIsFree->Bu,nextOf->Cd,ownedTupleHandOut->Jk
open Int renaming toNat_natCast->Bw,eq_ofNat_of_zero_le->Ei,toNat->Ik,emod_lt_of_pos->Me,emod->Mf,natCast_add->Od,emod_nonneg->Oe,mul_nonneg->Ur,mul_le_mul->Us,le_trans->Wp,add_mul->Xg
open PySem.Heap.SameBut renaming update->Cb,trans->Wq,refl->Wr
open PyProof.Rows.F renaming plain_set_update_loop->Cf,entry_set_update_loop->Eo
open Ne renaming symm->Cg
open Or renaming inl->Cv,inr->Dc
open Classical renaming byContradiction->Cy
open PySem.SetTable renaming below->Cz,insertAt->Hw,turns->Kn,fits->Nj,fill->Nk
open PySem.Builtin.Tuple renaming tupleHashOf->Df,tupleExact->Gu,tupleItemsOf->Lj
open List.cons renaming inj->Dh
open PySem.Obj renaming mapSeq->Dj,data_mapFields->Dw,isFreed_of_fields->Gv,cls_mapFields->Ih,mapFields->Ja,putSet->Lb,data_mapDictKeys->Qx
open PyProof.Rows renaming callWith_type1->Dk,boot_list->Ew,slot_tuple_getitem->Kq,boot_all->Kw,boot_tuple->Lw,lt_int->Np,boot_int->Pg,boot_sorted->Pu,listUpdate_at->Rj,Constant_none->Rt,subscriptTail_builtinR->Rw,seqEpoch_at->Tu,boot_sum->Uh,boot_max->Ui,boot_range->Vi,Subscript_->Vl,callWith_kw->Wh,callWith_builtin1->Wi,boot_isinstance->Xe
open PySem.NameKind renaming free->Dm,cell->Dx
open PySem.Str renaming ofString->Do
open PySem.Builtin.List renaming listExtendWith->Ea,listFitsIndex->Gh,listTooLong->Gw,listSameRef->Gx,listLengthHint->Ll,listTouch->Mo,listItems->Mp,listUpdate->Wu
open PySem.Builtin.Dict_items renaming ownsTuple->Em,newIterator->Sb,dictOf->Sd
open False renaming elim->Ft
open True renaming intro->Fu
open PySem.F renaming slot_zip_next->Ga,slot_dict_valueiterator_next->Gf,slot_dict_keyiterator_next->Gs,plain_extend_loop->Hd,slot_tuple_iterator_next->Ho,plainAttrs_list->Ht,args_tuple_add_2->Jm,entry_tuple_add->Js,slot_tuple_add->Kb,args_zip_next_1->Kk,entry_zip_next->Kt,args_dict_valueiterator_next_1->Mx,entry_extend_loop->Nf,entry_dict_valueiterator_next->Ni,type_list_append->Nl,slot_list_append->Nm,slot_dict_values->Nn,args_dict_keyiterator_next_1->Nu,plain_min_loop->Of,plain_max_loop->Og,entry_dict_keyiterator_next->Oh,args_tuple_iterator_next_1->Os,slot_dict_len->Pb,entry_tuple_iterator_next->Pf,slot_dict_values_iter->Qs,kt_typeCall_dict_1->Sa,args_dict_init_2->Tp,slot_tuple_hash->Uc,plain_list_iadd->Ud,entry_dict_init->Ue,slot_dict_iter->Uu,kt_called_dict->Uv,entry_min_loop->Uw,entry_max_loop->Ux,slot_zip_iter->Vq,slot_tuple_eq->Vr,slot_set_iter->Vs,slot_int_rmul->Vt,plain_set_new->Vu
open PySem.Builtin.Slice renaming slicePlaces->Gk,sliceAdjust->Il,sliceApplied->Lk,slicePartIndex->Vw,sliceFields->Vx
open PySem.Builtin.Dict renaming updateFrom->Hi,showsAll->Hv,pendingCount->Ma,dictSlotNone->Mb,selfAndRest->Mh,readDirectly->Wv,pairItems->Ww,noArgs->Wx,mergeDict->Wy,merge->Wz,addKeywords->Xa
open ForInStep renaming yield->Hs
open Option renaming map_some->Hu,isSome_some->Qm,isSome_map->Qw,getD_none->Rm
open PySem.Builtin.Builtins renaming bindParams->Ia
open Nat.succ renaming inj->Jb
open List.Perm renaming refl->Jc,swap->Qz
open PySem.SetTable.probe renaming go->Jl
open PySem.Shared renaming TypeIs->Jt,heap->Uj
open Iff renaming rfl->Kj
open PySem.SeqAt renaming EqAt->Ko,RcNeAt->Uk,RcAt->We
open Sum renaming inr->Lq,inl->Oa
open PySem.SeqAt.EqAt renaming same->Lx,str_int->Ov,of_refs->Ow,int_str->Ox
open PySem.Builtin.Range renaming rangeSize->Mg
open PySem.SetTable.below renaming go->Mq
open List.Pairwise renaming of_map->Mw,nil->Oc,filter->Vp
open Prod renaming ext->Ng
open PySem.Moved renaming trans->Nh
open PySem.Data renaming cell->Nv,fields->Ra,seq->Uy
open PySem.Calls renaming Name_function_global->Nx,call_function_entry->Oi,callWith_builtin->Pl,spliced_cons->Rc,spliced_nil->Ru
open PySem.pickOrder renaming go->Nz
open PySem.Walks renaming list->Oj
open PySem.Paired renaming length->Ol,snoc->Um
open PySem.Heap.DictOfH renaming new->Pe
open PySem.SeqAt.RcAt renaming tuples->Ph,lists->Pv
open Function renaming comp_def->Qe
open PySem.Code renaming isFrame->Qf,frames->Wt
open PyProof.Rows.IsTup renaming new->Sq
open PySem.Builtin.Frozenset renaming updateFrom->Sr,slot0->Ss,sizeOf->Su,newClass->Sw
open Std.Legacy.Range renaming forIn_eq_forIn_range'->Sz
open Sum.inl renaming inj->Tx
open PySem.AutoListH renaming list_insert_list_int_val_1->Tz
open Prod.mk renaming inj->Ua
open PySem.Heap.IsSliceOf renaming new->Ut
open PySem.W.WShape renaming has->Vj
open PySem.W.Looks renaming here->Vm
open PySem.CmpOp renaming NotIn->Vv
open PySem.SeqAt.RcNeAt renaming tuples->Wc,lists->Wd
open PySem.Within renaming cons->Wg
open Eq renaming trans->Ws
open PySem.W.WData renaming int->Xf
open PySem.Heap.IsList renaming push->Xh
open PySem.Heap.DictOf renaming new->Xi
set_option compiler.extract_closed false
set_option bootstrap.genMatcherCode false
set_option genSizeOf false
local macro_rules| `(tactic|trivial)=> `(tactic|first|exact Cv rfl|exact Dc (Cv rfl)|exact Dc (Dc rfl)|exact Dc rfl)
local macro_rules| `(tactic|ac_rfl)=> `(tactic|simp only[Mc,Cm,if_false])
local macro_rules|`(∅)=>`(by lia)
local macro_rules|`(⋯)=>`(by decide)
set_option hygiene false
local macro_rules|`(⇑$x)=>`(Cal P w K mg base CX0 $x)
local macro_rules|`(↥$x)=>`(bJ P w K mg base CX0 $x)
local macro_rules|`(~~~$x)=>`(show ($x : List Str).Nodup by decide+kernel)
local macro_rules|`(↑$x)=>`(fun cl C s2 H2 fp=>$x)
local macro_rules|`(#v[0])=>`(s.heap.objs.size)
local macro_rules|`(#v[1])=>`(SetTable.advs t.mask N (t.probeStart (knd.hash k)))
local macro_rules|`(#v[2])=>`(wpAny (model prog w) A)
local macro_rules|`(#v[3])=>`(bD X (cL own cap) scope cl C s2 H2 fp)
local macro_rules|`(#v[4])=>`(Inv X pins σ H s)
local macro_rules|`(#v[5])=>`(by decide+kernel)
local macro_rules|`(#v[6])=>`(wpAny (model X.prog X.w) X.A)
local macro_rules|`(#v[7])=>`(Value->Shared->Prop)
local macro_rules|`(#v[8])=>`(List (Addr×Obj))
local macro_rules|`(#v[9])=>`({cls:=.type "dict",data:=.dict (List.toArray [])})
local macro_rules|`(#v[10])=>`(.ListComp elt [⟨tg,iter,[],0⟩] scope pos)
local macro_rules|`(#v[11])=>`(.ListComp elt [⟨tg,iter,[ci],0⟩] scope pos)
local macro_rules|`(#v[12])=>`(Option Value)
local macro_rules|`(#v[13])=>`(List (Tke×Addr×Value))
local macro_rules|`(#v[14])=>`(List (Str×Nat))
local macro_rules|`(#v[15])=>`(.ListComp elt [⟨tg,iter,cis,0⟩] scope pos)
local macro_rules|`(#v[a])=>`(aO aK bF T.len Br (aJ (aA 0) aM))
local macro_rules|`(#v[b])=>`(aL c__law_draw (hr.mono ⋯) rfl (aB (aA 1) (aB aH aF)))
local macro_rules|`(#v[c])=>`(s.heap.push {cls:=.type "set",dict:=none,data:=.set (List.toArray []) 0 (.fresh 0 0 led)})
local macro_rules|`(#v[d])=>`(List (List Nat))
local macro_rules|`(#v[e])=>`(∀i m σc H3,W i m σc H3->(J.stop i H3/\Q (.ref s2.heap.objs.size) H3)∨(J.go i H3/\∀x H4,J.yld i H3 x H4->g x σc H4 λσ5 H5=>tc σ5 H5 λok H5'=>if ok=true then te σ5 H5' λy H6=>∃ys,H6 s2.heap.objs.size=some (.lst ys)/\ys.length<sizeLine/\∃m',m'<m/\W (i+1) m' σ5 (upd H6 s2.heap.objs.size (.lst (ys++[y])))else∃m',m'<m/\W (i+1) m' σ5 H5'))
local macro_rules|`(#v[f])=>`(bV X (cL own cap) scope cs C s2 H2 fp)
local macro_rules|`(#v[g])=>`(pdO P w (kv0 (spS ns r.toNat)))
local macro_rules|`(#v[h])=>`(starEach [a,b] X.env=[(false,eval a X.env),(false,eval b X.env)])
local macro_rules|`(#v[i])=>`(⇑2 "is_within" PW3 (spV fQ))
local macro_rules|`(#v[j])=>`(backToKw pos (keywordEach [⟨some "default",k,kp⟩] X.env))
local macro_rules|`(#v[k])=>`(swapsWith #v[10] (some (.Name x py)) spos.line X.env=pure true)
local macro_rules|`(#v[l])=>`(Ex x q (jP st) (gM st) (aC st) .none kV doc pm an cdv ct)
local macro_rules|`(#v[m])=>`(t.probeStart (knd.hash k))
local macro_rules|`(#v[n])=>`(bV X Nc scope cs C s2 H2 fp)
local macro_rules|`(#v[o])=>`(∀b∈ch,(b∈X.ex∨X.s₀.heap.objs.size<=b)/\b≠X.env.locals/\(∀x c,X.env.cells.lookup x=some c->c≠b)/\∀p∈X.pn++pins,p.1≠b)
local macro_rules|`(#v[p])=>`(model X.prog X.w)
local macro_rules|`(#v[q])=>`(List U->(Sl->Prop)->Prop)
local macro_rules|`(#v[r])=>`(ha pins s σ H _ I h)
local macro_rules|`(#v[s])=>`(∀C H' s' m,s2.heap.objs.size<=C->s'.heap.Ns C m->H' C=none->Inv X pins σ H' s'->(∀h',Dv C s'.heap h'->Inv X pins σ H' {s' with heap:=h'})->Q (.ref s2.heap.objs.size) H'->RR (.ref s2.heap.objs.size) C (.ok .next) s')
local macro_rules|`(#v[t])=>`(bH aY bI (aA 0) aH)
local macro_rules|`(#v[u])=>`(∀b xs,H b=some (.tup xs)->H' b=some (.tup xs))
local macro_rules|`(#v[v])=>`(lU P w K mg base N 1 "inner" (lL N))
local macro_rules|`(#v[w])=>`(ns.map U.n)
local macro_rules|`(#v[x])=>`(.sh (.b true))
local macro_rules|`(#v[y])=>`(U->(Option U->Prop)->Prop)
local macro_rules|`(#v[z])=>`(List (List Int))
local macro_rules|`(#v[A])=>`(EO W B H0 A ρ σ H)
local macro_rules|`(#v[B])=>`((s.heap.update a (Dj λ_=> (List.toArray []))).push (seqObj "tuple" vs.toArray 0))
local macro_rules|`(#v[C])=>`(Loc X.env.scope x)
local macro_rules|`(#v[D])=>`(s.heap.push {cls:=.type "list",data:=.seq ([]:List Value).toArray})
local macro_rules|`(#v[E])=>`(.Name x p')
local macro_rules|`(#v[F])=>`((items.toList.drop (sIx items.size 0 lo)).take (sIx items.size items.size hi-sIx items.size 0 lo))
local macro_rules|`(#v[G])=>`(I.hok.fresh (Aj _))
local macro_rules|`(#v[H])=>`(ps.flatMap (ext n))
local macro_rules|`(#v[I])=>`(starEach [b] X.env=[(false,eval b X.env)])
local macro_rules|`(#v[J])=>`(spS ns r.toNat)
local macro_rules|`(#v[K])=>`(∀cl C s2 H2 fp,PG #v[3] tg g)
local macro_rules|`(#v[L])=>`(∀ys:List (α×Addr),ys.Perm xs->ys.Pairwise (λx y=>lt x.1 y.1=true)->P (.done (.ret .none)) {s with heap:=sortedHeap s.heap a (xs.map λx=>Ao x.2) (ys.map λx=>Ao x.2).toArray})
local macro_rules|`(#v[M])=>`(ns.map V.int)
local macro_rules|`(#v[N])=>`(.ls (tab n λm=>U.ls (ntU (gU dn m))))
local macro_rules|`(#v[O])=>`(A.handled=none)
local macro_rules|`(#v[P])=>`(ha pos pins s σ H _ I h)
local macro_rules|`(#v[Q])=>`(U->U->(Sl->Prop)->Prop)
local macro_rules|`(#v[R])=>`(.ls (tab ls.length λm=>U.ls (ntU (nD dn m))))
local macro_rules|`(#v[S])=>`(t.probeStart h)
local macro_rules|`(#v[T])=>`(Ja (·.setIfInBounds 1 (rawInt ((i:Int)+1))))
local macro_rules|`(#v[U])=>`(xs.getD i (default,0))
local macro_rules|`(#v[V])=>`(eO (huD hr))
local macro_rules|`(#v[W])=>`(List ((Int×List Int)×Addr))
local macro_rules|`(#v[X])=>`(List (K×Addr×Value))
local macro_rules|`(#v[Y])=>`(aL c_is_within (hr.mono ⋯) rfl (aB (aA 0) (aB aH (aB (cT rJ cU (aA 1) aH) aF))))
local macro_rules|`(#v[Z])=>`(aL c__law_draw (hr.mono ⋯) rfl (aB (aA 0) (aB aH aF)))
local macro_rules|`(#v[16])=>`(⇑1 "_law_draw" ["_law_tape_here","_law_many"] (spV aEt))
local macro_rules|`(#v[17])=>`(A.under (.builtin "type.__call__" ⟨.ref C::us,kw⟩))
local macro_rules|`(#v[18])=>`(s.heap.push {cls:=.type "range",data:=.fields (List.toArray [.int lo t,.int hi u,.int 1 v])})
local macro_rules|`(#v[19])=>`(cH (cI (iR .ls nofun T.isinstance T.list Ew (aA 0))))
local macro_rules|`(#v[20])=>`(rH N CG CJ ns rs t ys m r ls)
local macro_rules|`(#v[21])=>`(EP X pins σ Q)
local macro_rules|`(#v[22])=>`(.Assign [.Name x py] #v[10] spos)
local macro_rules|`(#v[23])=>`(aO aK bF T.len Br (aJ (aA 1) aM))
local macro_rules|`(#v[24])=>`(∀C s2 H2 fp,PE #v[3] elt te)
local macro_rules|`(#v[25])=>`(U.eq (.ls (S.map tkU)) (.ls []))
local macro_rules|`(#v[26])=>`(Nat->Option Nat)
local macro_rules|`(#v[27])=>`(cY (intKind P w))
local macro_rules|`(#v[28])=>`(pushCells (G2.push #v[9]) scope.names)
local macro_rules|`(#v[29])=>`(backToKw pos (keywordEach kws X.env))
local macro_rules|`(#v[30])=>`(keywordEach [] X.env)
local macro_rules|`(#v[31])=>`(∀s v H',R s->Fw W H H'->RO W B H H' s v->Q v H')
local macro_rules|`(#v[32])=>`(.ref #v[0])
local macro_rules|`(#v[33])=>`(List U->(List Str->List U->Prop)->Prop)
local macro_rules|`(#v[34])=>`(∀C s2 H2 fp,PG #v[3] tg g)
local macro_rules|`(#v[35])=>`(∀cs,dI X scope cs->∀C s2 H2 fp,PG #v[f] tg g)
local macro_rules|`(#v[36])=>`(aB (aL c__law_cell_at (hr.mono ⋯) rfl (aB (aA 0) (aB aH aF))) aF)
local macro_rules|`(#v[37])=>`(intKind prog w)
local macro_rules|`(#v[38])=>`(uC own.length cap wi g tc te)
local macro_rules|`(#v[39])=>`(tR lA (pv 0) dU (λ_ _=>rfl))
local macro_rules|`(#v[40])=>`(ts.getD pc (0,0))
local macro_rules|`(#v[41])=>`(EE W B H ρ σ)
local macro_rules|`(#v[42])=>`(bJ X.prog X.w X.K X.mg X.base CX k f fd ps sp)
local macro_rules|`(#v[43])=>`(∀b o,¬B b->H b=some o->¬B' b/\H' b=some o)
local macro_rules|`(#v[44])=>`((xs.map λx=>Ao x.2).toArray.zip (xs.map λx=>Ao x.2).toArray)
local macro_rules|`(#v[45])=>`(bD #v[n] (cL own icap) isc cl C' s3 H3 fp')
local macro_rules|`(#v[46])=>`(ys.map tkU)
local macro_rules|`(#v[47])=>`(he pins s σ H _ I h)
local macro_rules|`(#v[48])=>`(.Call (.Name x p) (e::es) [] pos)
local macro_rules|`(#v[49])=>`(Cz t.place #v[1].j)
local macro_rules|`(#v[50])=>`(f1.trans f2)
local macro_rules|`(#v[51])=>`(.Call (.Name x p) (a::es) [] pos)
local macro_rules|`(#v[52])=>`(aO aK bF T.len Br (aJ (aA 2) aM))
local macro_rules|`(#v[53])=>`(cellsFrom (G2.objs.size+1) scope.names [])
local macro_rules|`(#v[54])=>`(OpR X (compareOp op) r)
local macro_rules|`(#v[55])=>`(Ex x qual (jP st) (gM st) (aC st) .none kV doc pm an cdv ct)
local macro_rules|`(#v[56])=>`(#v[12]->Shared->Prop)
local macro_rules|`(#v[57])=>`(swapsWith #v[11] (some (.Name x py)) spos.line X.env=pure true)
local macro_rules|`(#v[58])=>`(I.ok.hd hc)
local macro_rules|`(#v[59])=>`(HeapKind prog w K)
local macro_rules|`(#v[60])=>`(List (Str×Addr))
local macro_rules|`(#v[61])=>`(aG (aU jK))
local macro_rules|`(#v[62])=>`(PI X tg iter wi)
local macro_rules|`(#v[63])=>`(Array (Int×Value))
local macro_rules|`(#v[64])=>`(X.env.scope=sc0)
local macro_rules|`(#v[65])=>`(assign (.Name x py) X.env)
local macro_rules|`(#v[66])=>`(vW own.length cap wi g te)
local macro_rules|`(#v[67])=>`(starEach [.Call (.Name "zip" p2) [a,b] [] pos2] X.env=[(false,eval (.Call (.Name "zip" p2) [a,b] [] pos2) X.env)])
local macro_rules|`(#v[68])=>`(.Attribute o m apos)
local macro_rules|`(#v[69])=>`(dC (eG rfl) lC T.list Ew (aJ (aA 0) aM))
local macro_rules|`(#v[70])=>`(model prog w)
local macro_rules|`(#v[71])=>`(Cfl K CJ ["taken","grid","term","modulus","rounds","first"])
local macro_rules|`(#v[72])=>`(starEach [a] X.env=[(false,eval a X.env)])
local macro_rules|`(#v[73])=>`(∀k v,knd.is k v=true->∃i tk,v=Ec i tk)
local macro_rules|`(#v[74])=>`(List.mem_append.mp hp)
local macro_rules|`(#v[75])=>`(oX scope sc0 cap N0)
local macro_rules|`(#v[76])=>`(.Subscript #v[E] i sp)
local macro_rules|`(#v[77])=>`(lH (zs1 x b) tk)
local macro_rules|`(#v[78])=>`(wD ns rs ys r)
local macro_rules|`(#v[79])=>`(aIt CX P w K mg base N qual scope f cdv A outer s H E)
local macro_rules|`(#v[80])=>`(Vis X.env.scope x)
local macro_rules|`(#v[81])=>`(t.led= !w.params.followText "set-order")
local macro_rules|`(#v[82])=>`(.ins C dx fs)
local macro_rules|`(#v[83])=>`(envOfC qual scope #v[0] f cd)
local macro_rules|`(#v[84])=>`(SetTable.advs t.mask n #v[m])
local macro_rules|`(#v[85])=>`(aX (cC (aA 0) D_inner (hr.mono ∅)))
local macro_rules|`(#v[86])=>`(.builtin "set.update.loop" ⟨[.ref S,.ref I],[]⟩)
local macro_rules|`(#v[87])=>`((is.zip us).foldl (λρ x=>ρ.set x.1 (.sh x.2)) ρ)
local macro_rules|`(#v[88])=>`(List (List Tk))
local macro_rules|`(#v[89])=>`(aW (i:=0) (~~~["_law_piece"]) rfl (Cv rfl) (Dc rfl))
local macro_rules|`(#v[90])=>`(By _ _ (Cg hb))
local macro_rules|`(#v[91])=>`(advs t.mask N #v[S])
local macro_rules|`(#v[92])=>`(.ref s2.heap.objs.size)
local macro_rules|`(#v[93])=>`(eb.keep fw)
local macro_rules|`(#v[94])=>`(⇑5 "are_spots" ["job","thing"] (spV (aDx N CG CJ)))
local macro_rules|`(#v[95])=>`(some (.n ((p.map tkU).length:Nat)))
local macro_rules|`(#v[96])=>`(Nat->Addr->Prop)
local macro_rules|`(#v[97])=>`(tM no cap ρ)
local macro_rules|`(#v[98])=>`(ts.getD p (0,0))
local macro_rules|`(#v[99])=>`(cZ X scope cap cl)
local macro_rules|`(#v[100])=>`(Cal X.prog X.w X.K X.mg X.base CX0 k x ps (spV F))
local macro_rules|`(#v[101])=>`(aL c__law_draw (hr.mono ⋯) rfl (aB (aA 1) (aB (aO aK bF T.len Br (aJ (aA 3) aM)) aF)))
local macro_rules|`(#[$x,*])=>`(⟨$x,*⟩)
set_option Elab.async false
set_option linter.all false
set_option maxRecDepth 100000
namespace L2
variable {E:#v[7]}{Q:#v[7]}{u:Value}{us:List Value}{mg:Str->#v[12]}{kw:List (Str×Value)}{t':Nat}{b:Addr}{pos:Pos}{body:List Stmt}{base:Heap}{mA:Str->#v[12]}{ch:List Addr}{A:Around}{fp:List Addr}{i:Nat}{k:Nat}{tg:Expr}{g':Array GenState}{g:Int->Int->Int}{N ps:List Str}{es:List Expr}
open PySem PySem.Spec PyProof.Rows
abbrev Key:=Sum Int Str
def aBs:Key->Value->Bool
 |.inl k,v=>Jz k v
 |.inr x,v=>Tv x v
def bB9(w:World):Key->Int
 |.inl k=>hashInt k
 |.inr x=>hashStr w x
def dX:∀{k:Key}{v:Value},aBs k v=true->(∃i t,k=Oa i/\v=Ec i t)∨(∃x t,k=Lq x/\v=Na x t)
 |.inl i,v,h=>by
  obtain⟨t,e⟩:=Ez (k:=i) (v:=v) h;exact .inl #[i,t,rfl,e]
 |.inr x,v,h=>by
  obtain⟨t,e⟩:=Value.isStrOf_shape (x:=x) (v:=v) h;exact .inr #[x,t,rfl,e]
def aKg(i:Int)(t:Tok):aBs (.inl i) (.int i t)=true:=by simp[aBs,Jz]
def aLe(x:Str)(t:Tok):aBs (.inr x) (.str x t)=true:=by simp[aBs,Tv]
def aXu(a b:Int):decide ((Oa a:Key)=Oa b)=(a==b):=by
 by_cases e:a=b
 ·subst e;simp
 ·have h:¬(Oa a:Key)=Oa b:=λq=>e (Tx q);rw[decide_eq_false h];exact(beq_eq_false_iff_ne.mpr e).symm
def aWx(a b:Str):decide ((Lq a:Key)=Lq b)=decide (a=b):=by
 by_cases e:a=b
 ·subst e;simp
 ·have h:¬(Lq a:Key)=Lq b:=λq=>e (Sum.inr.inj q);rw[decide_eq_false h,decide_eq_false e]
def aVf(a:Int)(b:Str):decide ((Oa a:Key)=Lq b)=false:=decide_eq_false (λq=>nomatch q)
def aW5(a:Str)(b:Int):decide ((Lq a:Key)=Oa b)=false:=decide_eq_false (λq=>nomatch q)
def gQ(prog:Program)(w:World):PySem.KeyKind prog w Key where
 is:=aBs
 hash:=bB9 w
 inj:=λv a b ha hb=>by
  rcases dX ha with ⟨i,t,rfl,rfl⟩|⟨x,t,rfl,rfl⟩
  ·rcases dX hb with ⟨j,u,rfl,e⟩|⟨y,u,rfl,e⟩
   ·injection e with e1 _;rw[e1]
   ·exact nomatch e
  ·rcases dX hb with ⟨j,u,rfl,e⟩|⟨y,u,rfl,e⟩
   ·exact nomatch e
   ·injection e with e1 _;rw[e1]
 byValue:=λk v h=>by
  rcases dX h with ⟨i,t,rfl,rfl⟩|⟨x,t,rfl,rfl⟩<;>rfl
 pyHash:=λhv h=>by
  rcases dX hv with ⟨i,t,rfl,rfl⟩|⟨x,t,rfl,rfl⟩
  ·exact wpAny_pyHash_int h
  ·exact wpAny_pyHash_str h
 eqBool:=λhu hv h=>by
  rcases dX hu with ⟨i,t,rfl,rfl⟩|⟨x,t,rfl,rfl⟩
  ·rcases dX hv with ⟨j,u,rfl,rfl⟩|⟨y,u,rfl,rfl⟩
   ·rw[aXu]at h;exact Ot h
   ·rw[aVf]at h;exact Ox i t y u _ _ _ _ h
  ·rcases dX hv with ⟨j,u,rfl,rfl⟩|⟨y,u,rfl,rfl⟩
   ·rw[aW5]at h;exact Ov x t j u _ _ _ _ h
   ·rw[aWx]at h;exact wpAny_eqBool_str h
 «strs»:=λk x t v h=>by
  rcases dX h with ⟨i,u,rfl,e⟩|⟨y,u,rfl,e⟩
  ·exact nomatch e
  ·injection e with e1 _
   subst e1;cases v<;>rfl
def aFs(prog:Program)(w:World)(i:Int)(t:Tok):(gQ prog w).is (.inl i) (.int i t)=true:=aKg i t
def aGh(prog:Program)(w:World)(x:Str)(t:Tok):(gQ prog w).is (.inr x) (.str x t)=true:=aLe x t
inductive V where
 |non|bl (b:Bool)|int (i:Int)|str (x:Str)|byt (b:Array UInt8)|flt (b:UInt64)|ref (a:Addr)|ty (n:String)
 deriving DecidableEq
def RelV:V->Value->Prop
 |.non,u=>u=Bn
 |.bl b,u=>u=Jr b
 |.int i,u=>∃t,u=Ec i t
 |.str x,u=>∃t,u=Na x t
 |.byt b,u=>∃t,u=Vk b t
 |.flt b,u=>∃t,u=Qj b t
 |.ref a,u=>u=Ao a
 |.ty n,u=>u=Ge n
abbrev Vals:List V->List Value->Prop:=Paired RelV
def Vals.length{xs:List V}(r:Vals xs us):xs.length=us.length:=Ol r
def Vals.get:∀{xs:List V}{us:List Value}{i:Nat}{x:V},Vals xs us->xs[i]? =some x->∃u,us[i]? =some u/\RelV x u
 |_,_,_,_,.nil,e=>by simp at e
 |_,_,0,_,.cons r _,e=>by simp at e;subst e;exact#[_,rfl,r]
 |_,_,i+1,x,.cons _ t,e=>by
  obtain⟨u,h1,h2⟩:=Vals.get (i:=i) (x:=x) t (by simpa using e);exact#[u,by simpa using h1,h2]
def Vals.set(r:RelV x u):∀{xs:List V}{us:List Value}(i:Nat),Vals xs us->Vals (xs.set i x) (us.set i u)
 |_,_,_,.nil=> .nil
 |_,_,0,.cons _ t=> .cons r t
 |_,_,i+1,.cons q t=> .cons q (Vals.set r i t)
def Vals.append:∀{xs ys:List V}{us ws:List Value},Vals xs us->Vals ys ws->Vals (xs++ys) (us++ws)
 |_,_,_,_,.nil,s=>s
 |_,_,_,_,.cons r t,s=> .cons r (Vals.append t s)
def Vals.take:∀{xs:List V}{us:List Value}(n:Nat),Vals xs us->Vals (xs.take n) (us.take n)
 |_,_,0,_=> .nil
 |_,_,_+1,.nil=> .nil
 |_,_,n+1,.cons r t=> .cons r (Vals.take n t)
def Vals.drop:∀{xs:List V}{us:List Value}(n:Nat),Vals xs us->Vals (xs.drop n) (us.drop n)
 |_,_,0,r=>r
 |_,_,_+1,.nil=> .nil
 |_,_,n+1,.cons _ t=>Vals.drop n t
def tH:Option V->#v[12]->Prop
 |some v,some u=>RelV v u
 |none,none=>True
 |_,_=>False
def KV{κ:Type}:List (κ×V)->List (κ×Value)->Prop:=Paired λ(p:κ×V)(q:κ×Value)=>p.1=q.1/\RelV p.2 q.2
def kV:Key->V
 |.inl i=> .int i
 |.inr x=> .str x
inductive HO where
 |lst (xs:List V)
 |tup (xs:List V)
 |dK (kvs:List (Key×V))|dT (kvs:List (List Key×V))
 |set (S:Int->Bool) (n:Nat)
 |ins (C dx:Addr) (fs:List (Str×V))
 |own (x:Addr)
 |xd (fs:List (Str×V))
 |met (f x:Addr)
 |rng (lo hi:Int)
 |frz (o:Obj) (u:HO)
 |tbl (ps:Array Value)
 |ext (φ:Heap->Prop)
abbrev Hp:=Addr->Option HO
def upd(H:Hp)(a:Addr)(o:HO):Hp:=λb=>if b=a then some o else H b
def aP:upd H a o a=some o:=by unfold upd;rw[if_pos rfl]
def aN{a b:Addr}(h:b≠a):upd H a o b=H b:=by unfold upd;rw[if_neg h]
def bAa{H:Hp}{a b:Addr}{o u:HO}(h:H a=some o)(h':H b=some u)(d:o≠u):a≠b:=by
 intro e;subst e;rw[h]at h';exact d (Bi h')
def aR{H:Hp}{a b:Addr}{o:HO}(h:H a=some o)(h':H b=none):a≠b:=by
 intro e;subst e;rw[h]at h';cases h'
section
variable (P:Program)(w:World)
def bO(H:Hp)(h:Heap)(a:Addr):HO->Prop
 |.lst xs=>xs.length<=sizeLine/\∃(its:List Value)(n:Nat),Vals xs its/\h.get? a=some {cls:=.type "list",data:=.seq its.toArray n}
 |.tup xs=>xs.length<=sizeLine/\∃its:List Value,Vals xs its/\IsTup h a its.toArray
 |.dK kvs=>kvs.length<=sizeLine/\(a==sysModules)=false/\∃vs,KV kvs vs/\h.DictOf (gQ P w) a vs
 |.dT kvs=>kvs.length<=sizeLine/\(a==sysModules)=false/\∃xs:List (List Key×Addr×Value),
   Paired (λ(p:List Key×V)(q:List Key×Addr×Value)=>p.1=q.1/\H q.2.1=some (.tup (p.1.map kV))/\RelV p.2 q.2.2) kvs xs/\
   ∃o es ep,h.get? a=some o/\o.ExactDict/\o.data=.dict es ep/\es.toList=xs.map (entryOfKey (tupleKind (gQ P w)))/\(xs.map (·.1)).Nodup
 |.set S n=>h.SetOf (intKind P w) a S n
 |.ins C dx fs=>H dx=some (.own a)/\fs.length<=1000/\dx≠a/\h.get? a=some (Fq C dx)/\
   ∃mA,h.Ns1 dx mA/\(∀f,tH (fs.lookup f) (mA f))/\Pw mA (fs.map (·.1))
 |.own _=>∃o,h.get? a=some o
 |.xd fs=>∃mA,h.Ns1 a mA/\∀f,tH (fs.lookup f) (mA f)
 |.rng lo hi=>∃t u v,h.get? a=some {cls:=.type "range",data:=.fields (List.toArray [.int lo t,.int hi u,.int 1 v])}
 |.frz o u=>h.get? a=some o/\bO H h a u
 |.tbl ps=>h.get? a=some {cls:=.none,data:=.fields ps}
 |.met f x=>h.get? a=some (Lr (.ref f) (.ref x))
 |.ext φ=>φ h/\(∃o,h.get? a=some o)/\∀h1 h2:Heap,φ h1->(∀o,h1.get? a=some o->h2.get? a=some o)->φ h2
def HOk(H:Hp)(h:Heap):Prop:=∀a o,H a=some o->bO P w H h a o
end
variable {P:Program}{w:World}{H H':Hp}{h h':Heap}{a:Addr}{o:HO}
def bO.lt(x:bO P w H h a o):a<h.objs.size:=by
 cases o with
 |lst xs=>obtain⟨_,_,_,_,e⟩:=x;exact Ar e
 |tup xs=>obtain⟨_,_,_,p⟩:=x;exact p.lt
 |dK kvs=>obtain⟨_,_,_,_,o,_,_,e,_⟩:=x;exact Ar e
 |dT kvs=>obtain⟨_,_,_,_,o,_,_,e,_⟩:=x;exact Ar e
 |set S n=>obtain⟨o,_,_,_,e,_⟩:=x;exact Ar e
 |ins C dx fs=>obtain⟨_,_,_,e,_⟩:=x;exact Ar e
 |own y=>obtain⟨_,e⟩:=x;exact Ar e
 |xd fs=>obtain⟨_,⟨_,_,_,e,_⟩,_⟩:=x;exact Ar e
 |rng lo hi=>obtain⟨_,_,_,e⟩:=x;exact Ar e
 |frz ob u=>obtain⟨e,_⟩:=x;exact Ar e
 |tbl ps=>exact Ar (show h.get? a=some _ from x)
 |met f y=>exact Ar (show h.get? a=some _ from x)
 |ext φ=>obtain⟨_,⟨_,e⟩,_⟩:=x;exact Ar e
def Paired.mapP{α β:Type}{F G:α->β->Prop}:∀{l₁:List α}{l₂:List β},Paired F l₁ l₂->(∀a b,F a b->G a b)->Paired G l₁ l₂
 |_,_,.nil,_=> .nil
 |_,_,.cons r t,f=> .cons (f _ _ r) (Paired.mapP t f)
def bO.stay(x:bO P w H h a o)(k:∀b u,(b=a∨H b=some (.own a))->h.get? b=some u->h'.get? b=some u)
  (ho:∀b,H b=some (.own a)->H' b=some (.own a)) (ht:#v[u]):bO P w H' h' a o:=by
 induction o with
 |lst xs=>obtain⟨z,its,n,r,e⟩:=x;exact#[z,its,n,r,k _ _ (.inl rfl) e]
 |tup xs=>obtain⟨z,its,r,ob,e,c⟩:=x;exact#[z,its,r,ob,k _ _ (.inl rfl) e,c]
 |dK kvs=>obtain⟨z,y,vs,r,ob,es,ep,e,c⟩:=x;exact#[z,y,vs,r,ob,es,ep,k _ _ (.inl rfl) e,c]
 |dT kvs=>
  obtain⟨z,y,xs,r,ob,es,ep,e,c⟩:=x;exact#[z,y,xs,Paired.mapP r λp q z=>#[z.1,ht _ _ z.2.1,z.2.2],ob,es,ep,k _ _ (.inl rfl) e,c]
 |set S n=>obtain⟨ob,es,ep,t,e,c⟩:=x;exact#[ob,es,ep,t,k _ _ (.inl rfl) e,c]
 |ins C dx fs=>
  obtain⟨d,z,ne,e,mA,⟨od,es,ep,e2,c⟩,r⟩:=x;exact#[ho _ d,z,ne,k _ _ (.inl rfl) e,mA,#[od,es,ep,k _ _ (.inr d) e2,c],r]
 |own y=>obtain⟨ob,e⟩:=x;exact#[ob,k _ _ (.inl rfl) e]
 |xd fs=>obtain⟨mA,⟨od,es,ep,e,c⟩,r⟩:=x;exact#[mA,#[od,es,ep,k _ _ (.inl rfl) e,c],r]
 |rng lo hi=>obtain⟨t,u,v,e⟩:=x;exact#[t,u,v,k _ _ (.inl rfl) e]
 |frz ob u ih=>obtain⟨e,q⟩:=x;exact#[k _ _ (.inl rfl) e,ih q]
 |tbl ps=>
  have e:h.get? a=some {cls:=.none,data:=.fields ps}:=x;show h'.get? a=some {cls:=.none,data:=.fields ps};exact k a _ (.inl rfl) e
 |met f y=>
  have e:h.get? a=some (Lr (.ref f) (.ref y)):=x;show h'.get? a=some (Lr (.ref f) (.ref y));exact k a _ (.inl rfl) e
 |ext φ=>obtain⟨p,⟨o,e⟩,st⟩:=x;exact#[st _ _ p λo q=>k _ _ (.inl rfl) q,#[o,k _ _ (.inl rfl) e],st]
def HOk.lt(x:HOk P w H h)(e:H a=some o):a<h.objs.size:=(x a o e).lt
def HOk.fresh(x:HOk P w H h)(e:h.objs.size<=a):H a=none:=by
 cases q:H a with
 |none=>rfl
 |some u=>exact absurd (Be (x.lt q) e) (Dp _)
def HOk.kept(x:HOk P w H h)(k:∀b u,h.get? b=some u->h'.get? b=some u):HOk P w H h':=λa o e=>
 (x a o e).stay (λb u _ q=>k b u q) (λ_ q=>q) λ_ _ q=>q
def HOk.laid(x:HOk P w H h)(k:∀b u,h.get? b=some u->h'.get? b=some u)(hp:h.objs.size<=a)(new:bO P w (upd H a o) h' a o):HOk P w (upd H a o) h':=λb u e=>by
 have hn:=x.fresh hp;by_cases hb:b=a
 ·subst hb;rw[aP]at e;cases e;exact new
 ·rw[aN hb]at e;exact(x b u e).stay (λc v _ q=>k c v q) (λc q=>by rw[aN (aR q hn)];exact q) λc xs q=>by rw[aN (aR q hn)];exact q
def Rd(H:Hp)(a:Addr)(u:HO):Prop:=H a=some u∨∃o,H a=some (.frz o u)
def Rd.ok{P:Program}{w:World}{H:Hp}{h:Heap}{a:Addr}{u:HO}(r:Rd H a u)(x:HOk P w H h):bO P w H h a u:=by
 rcases r with r|⟨o,r⟩
 ·exact x a u r
 ·obtain⟨_,q⟩:=x a _ r;exact q
def Mut:Option HO->Prop
 |some (.lst _)=>True
 |some (.dK _)=>True
 |some (.dT _)=>True
 |some (.set _ _)=>True
 |some (.ins _ _ _)=>True
 |some (.ext _)=>True
 |_=>False
variable {x e:Addr}{o':HO}
def HOk.write(ok:HOk P w H h)(mu:Mut (H x))(he:e=x∨H e=some (.own x))(k:∀b u,b≠e->h.get? b=some u->h'.get? b=some u)(heo:∃u,h'.get? e=some u)
  (new:bO P w (upd H x o') h' x o'):HOk P w (upd H x o') h':=λb u q=>by
 have nown:∀c y,H c=some (.own y)->c≠x:=λc y r z=>by subst z;rw[r]at mu;exact mu
 have ntup:∀c xs,H c=some (.tup xs)->c≠x:=λc xs r z=>by subst z;rw[r]at mu;exact mu
 by_cases hb:b=x
 ·subst hb;rw[aP]at q;cases q;exact new
 ·rw[aN hb]at q;by_cases hbe:b=e
  ·have q':H b=some (.own x):=by
    rcases he with z|z
    ·exact absurd (hbe.trans z) hb
    ·rw[hbe];exact z
   rw[q]at q';cases q';obtain⟨v,hv⟩:=heo;exact#[v,by rw[hbe];exact hv]
  ·refine(ok b u q).stay (λc v hc r=>k c v ?_ r) (λc r=>by rw[aN (nown c b r)];exact r) λc xs r=>by rw[aN (ntup c xs r)];exact r
   rcases hc with rfl|hc
   ·exact hbe
   ·rintro rfl;rcases he with z|z
    ·exact nown c b hc z
    ·rw[hc]at z;cases z;exact hb rfl
structure Un(fs ex:List Addr)(H H':Hp)(h h':Heap):Prop where
 keep:∀b o,h.get? b=some o->H b=none->b∉fs->b∉ex->h'.get? b=some o
 slot:∀b o,h.get? b=some o->H b=none->b∈fs->b∉ex->∃sl,h'.get? b=some {o with slots:=sl}
 free:∀b o,h.get? b=some o->H b=none->b∉ex->H' b=none
 there:∀b o,h.get? b=some o->b∉ex->∃o',h'.get? b=some o'
 tups:∀b xs,H b=some (.tup xs)->H' b=some (.tup xs)
 frzs:∀b o u,H b=some (.frz o u)->H' b=some (.frz o u)
 tbls:∀b ps,H b=some (.tbl ps)->∃more,H' b=some (.tbl (ps++more))
section
variable {fs fs' ex ex':List Addr}{H H1 H2:Hp}{h h1 h2 h':Heap}{a x e:Addr}{o:HO}
def Un.any(u:Un fs ex H H1 h h1)(q:h.get? b=some ob)(n:H b=none)(hx:b∉ex):∃sl,h1.get? b=some {ob with slots:=sl}:=by
 by_cases hb:b∈fs
 ·exact u.slot b ob q n hb hx
 ·exact#[ob.slots,u.keep b ob q n hb hx]
def Un.kept(k:∀b u,h.get? b=some u->h'.get? b=some u):Un fs ex H H h h':=
 #[λb ob q _ _ _=>k b ob q,λb ob q _ _ _=>#[ob.slots,k b ob q],λ_ _ _ n _=>n,λb ob q _=>#[ob,k b ob q],λ_ _ q=>q,λ_ _ _ q=>q,λ_ ps q=>#[(List.toArray []),by rw[q];simp]]
def Un.refl:Un fs ex H H h h:=Un.kept λ_ _ q=>q
def Un.laid(k:∀b u,h.get? b=some u->h'.get? b=some u)(hp:h.objs.size<=a)(hn:H a=none):Un fs ex H (upd H a o) h h' where
 keep:=λb u q _ _ _=>k b u q
 slot:=λb u q _ _ _=>#[u.slots,k b u q]
 free:=λb u q n _=>by rw[aN (Aw (Be (Ar q) hp))];exact n
 there:=λb u q _=>#[u,k b u q]
 tups:=λb xs q=>by rw[aN (aR q hn)];exact q
 frzs:=λb u xs q=>by rw[aN (aR q hn)];exact q
 tbls:=λb ps q=>#[(List.toArray []),by rw[aN (aR q hn),q];simp]
def Un.write(mu:Mut (H x))(he:e=x∨H e=some (.own x))(k:∀b u,b≠e->h.get? b=some u->h'.get? b=some u)(heo:∃u,h'.get? e=some u):Un fs ex H (upd H x o) h h':=by
 have hx:∀b,H b=none->b≠x:=λb n z=>by subst z;rw[n]at mu;exact mu
 have hb:∀b,H b=none->b≠e:=λb n z=>by
  subst z;rcases he with r|r
  ·exact hx b n r
  ·rw[n]at r;cases r
 have hm:∀b u,H b=some u->¬Mut (some u)->b≠x:=λb u q nm z=>by subst z;rw[q]at mu;exact nm mu
 refine⟨λb u q n _ _=>k b u (hb b n) q,λb u q n _ _=>#[u.slots,k b u (hb b n) q],λb u q n _=>by rw[aN (hx b n)];exact n,λb u q _=>?_,
  λb xs q=>by rw[aN (hm b _ q λz=>z)];exact q,λb u xs q=>by rw[aN (hm b _ q λz=>z)];exact q,λb ps q=>#[(List.toArray []),by rw[aN (hm b _ q λz=>z),q];simp]⟩
 by_cases hbe:b=e
 ·subst hbe;exact heo
 ·exact#[u,k b u hbe q]
end
def trk(h:Heap)(H:Hp):List Addr:=(Bh h.objs.size).filter λa=>(H a).isSome
def aCv(h:Heap)(H:Hp):Heap:=PySem.W.hideAll h (trk h H)
def aJ7(h:Heap)(H:Hp):(aCv h H).objs.size=h.objs.size:=PySem.W.hideAll_size _ _
def aQd{h:Heap}{H:Hp}{o:Obj}(e:h.get? b=some o)(n:H b=none):(aCv h H).get? b=some o:=
 PySem.W.hideAll_get _ e λhm=>by
  have q:(H b).isSome=true:=(List.mem_filter.mp hm).2;rw[n]at q;simp at q
def aTd{h:Heap}{H:Hp}{o:Obj}(e:(aCv h H).get? b=some o):h.get? b=some o/\H b=none:=by
 have e':h.get? b=some o:=PySem.W.of_hideAll (trk h H) e;refine#[e',?_];cases q:H b with
 |none=>rfl
 |some x=>
  have hm:b∈trk h H:=List.mem_filter.mpr #[List.mem_range.mpr (Ar e'),by simp[q]];have z:(aCv h H).get? b=none:=PySem.W.hideAll_none (trk h H) hm;rw[z]at e;cases e
structure Mod(K:Ad)(mg:Str->#v[12])(base:Heap):Prop where
 kin:K.In base
 glob:base.Ns mainGlobals mg
 blt:∃mb,base.Ns builtinsNs mb/\∀x:Str,x≠"__name__"->mb x=bootBuiltins x
 nolimit:base.NoLimit
structure Cx where
 prog:Program
 w:World
 K:Ad
 mg:Str->#v[12]
 base:Heap
 A:Around
 N:List Str
 s₀:Shared
 H₀:Hp
 env:Env
 outer:List Env
 stack:List Env
 ex:List Addr
 fn:Str->Bool
 calm:Bool
 pn:#v[8]
 xe:#v[7]
def frs(l:List Env):List Addr:=l.filterMap (·.frame)
abbrev Cx.fs(X:Cx):List Addr:=frs X.outer
def Vis(sc:Scope)(x:Str):Prop:=sc.names.lookup x=some .local∨sc.names.lookup x=some .cell∨sc.names.lookup x=some .free
def Loc(sc:Scope)(x:Str):Prop:=sc.names.lookup x=some .local∨sc.names.lookup x=some .cell
def Look(env:Env)(h:Heap)(m:Str->#v[12])(x:Str)(u:Value):Prop:=
 (env.kindOf x=some .local/\m x=some u)∨((env.kindOf x=some .cell∨env.kindOf x=some .free)/\∃c,env.cells.lookup x=some c/\h.IsCell c (some u))
structure Cx.Ok(X:Cx):Prop where
 mod:Mod X.K X.mg X.base
 kind:X.env.scope.kind=.function
 glob:X.env.globals=mainGlobals
 blt:X.env.builtins=builtinsNs
 above:X.s₀.heap.objs.size<=X.env.locals
 inj:∀x y c,X.env.cells.lookup x=some c->X.env.cells.lookup y=some c->x=y
 has:∀x,(X.env.kindOf x=some .cell∨X.env.kindOf x=some .free)->∃c,X.env.cells.lookup x=some c
 cab:∀x c,X.fn x=true->X.env.cells.lookup x=some c->X.s₀.heap.objs.size<=c
 hd:X.calm=true->X.A.handled=none
 frames:X.A.frames=some X.stack
 stk:X.stack=X.outer∨(X.stack=X.env::X.outer/\X.env.frame=some X.env.locals)
 exf:∀b∈X.ex,b≠X.env.locals/\∀x c,X.env.cells.lookup x=some c->c≠b
 bs:∀b o,X.base.get? b=some o->X.s₀.heap.get? b=some o/\X.H₀ b=none
 bsz:X.base.objs.size<=X.s₀.heap.objs.size
 noex:∀b o,X.base.get? b=some o->b∉X.ex
 exfs:∀b∈X.ex,b∉X.fs
 funs:X.s₀.heap.FunFrames X.base X.outer
 frf:∀b∈X.fs,X.H₀ b=none
structure Inv(X:Cx)(pins:#v[8])(σ:List (Option V))(H:Hp)(s:Shared):Prop where
 ok:X.Ok
 os:s.os=X.s₀.os
 bare:AllBare s.gens
 base:Un X.fs X.ex X.H₀ H X.s₀.heap s.heap
 loc:∃m,s.heap.Ns X.env.locals m/\∀(i:Nat)(x:Str)(v:V),X.N[i]? =some x->σ[i]? =some (some v)->Vis X.env.scope x->∃u,RelV v u/\Look X.env s.heap m x u
 cell:∀x c,X.env.cells.lookup x=some c->∃v,s.heap.IsCell c v
 free:H X.env.locals=none
 freeC:∀x c,X.env.cells.lookup x=some c->H c=none
 pin:∀p∈X.pn++pins,s.heap.get? p.1=some p.2/\H p.1=none/\p.1≠X.env.locals/\p.1∉X.fs/\∀v,p.2.data≠.cell v
 hok:HOk X.prog X.w H s.heap
 len:σ.length=X.N.length
variable {X:Cx}{pins:#v[8]}{σ:List (Option V)}{s:Shared}
def Cx.Ok.nofr(ok:X.Ok){o:Obj}(e:X.base.get? b=some o):b∉X.fs:=λhb=>by
 have:=(ok.funs.mem hb).1;rw[e]at this;cases this
def Inv.bs(I:#v[4]):∀b o,X.base.get? b=some o->s.heap.get? b=some o/\H b=none:=λb o e=>
 #[I.base.keep b o (I.ok.bs b o e).1 (I.ok.bs b o e).2 (I.ok.nofr e) (I.ok.noex b o e),I.base.free b o (I.ok.bs b o e).1 (I.ok.bs b o e).2 (I.ok.noex b o e)]
def Inv.bk(I:#v[4]):∀b o,X.base.get? b=some o->s.heap.get? b=some o:=λb o e=>(I.bs b o e).1
def Inv.mod(I:#v[4]):Mod X.K X.mg X.base:=I.ok.mod
def Inv.kIn(I:#v[4]):X.K.In s.heap:=I.ok.mod.kin.keeps I.bk
def Inv.lt(I:#v[4]):X.env.locals<#v[0]:=let⟨_,hn,_⟩:=I.loc;hn.lt
def Inv.sz(I:#v[4]):X.s₀.heap.objs.size<=#v[0]:=Ci I.ok.above (Fd I.lt)
def Inv.nofs(I:#v[4]){a:Addr}(h:#v[0]<=a):a∉X.fs:=λhb=>by
 obtain⟨_,o,ho,_⟩:=I.ok.funs.mem hb;exact absurd (Be (Ar ho) (Ci I.sz h)) (Dp _)
def Inv.cne(I:#v[4]):∀x c,X.env.cells.lookup x=some c->c≠X.env.locals:=λx c e z=>by
 obtain⟨v,o,ho,hd⟩:=I.cell x c e;obtain⟨m,⟨o',es,ep,ho',hd',_⟩,_⟩:=I.loc;rw[z,ho']at ho;cases ho;rw[hd']at hd;cases hd
def Inv.funs(I:#v[4]):s.heap.FunFrames X.base X.outer:=by
 have all:∀(l:List Env),(∀b∈frs l,b∈X.fs)->X.s₀.heap.FunFrames X.base l->s.heap.FunFrames X.base l:=by
  intro l;induction l with
  |nil=>intro _ _;trivial
  |cons env r ih=>
   intro hs hl;obtain⟨hk,⟨L,o,hf,hn,ho,hd⟩,hr⟩:=hl;have hL:L∈X.fs:=hs L (by unfold frs;rw[Ji,hf];exact Ah);obtain⟨sl,e⟩:=I.base.slot L o ho (I.ok.frf L hL) hL λz=>I.ok.exfs L z hL;exact#[hk,#[L,_,hf,hn,e,hd],ih (λb hb=>hs b (by unfold frs;rw[Ji,hf];exact Af _ hb)) hr]
 exact all X.outer (λ_ hb=>hb) I.ok.funs
def Inv.stack(I:#v[4]):s.heap.FunFrames X.base X.stack:=by
 rcases I.ok.stk with e|⟨e,hf⟩
 ·rw[e];exact I.funs
 ·rw[e];obtain⟨m,hn,_⟩:=I.loc;refine .cons (by rw[I.ok.kind];decide) hf hn ?_ I.funs;exact Lc (Ci I.ok.bsz I.ok.above)
def Inv.stkSub(I:#v[4]):∀b∈frs X.stack,b∈X.env.locals::X.fs:=λb hb=>by
 rcases I.ok.stk with e|⟨e,hf⟩
 ·rw[e]at hb;exact Af _ hb
 ·rw[e]at hb;unfold frs at hb;rw[Ji,hf]at hb;exact hb
def Inv.stkFree(I:#v[4]):∀b∈frs X.stack,H b=none:=λb hb=>by
 rcases List.mem_cons.mp (I.stkSub b hb)with e|hb
 ·rw[e];exact I.free
 ·obtain⟨_,o,ho,_⟩:=I.ok.funs.mem hb;exact I.base.free b o ho (I.ok.frf b hb) λz=>I.ok.exfs b z hb
def Inv.step{d':Drawn}(I:#v[4])
  (hch:#v[o])
  (keep:∀b o,b≠X.env.locals->b∉X.fs->b∉ch->s.heap.get? b=some o->H b=none->h'.get? b=some o)
  (slot:∀b o,b≠X.env.locals->b∈X.fs->b∉ch->s.heap.get? b=some o->H b=none->∃sl,h'.get? b=some {o with slots:=sl}) (free:∀b o,b∉ch->s.heap.get? b=some o->H b=none->H' b=none)
  (there:∀b o,b∉ch->s.heap.get? b=some o->∃o',h'.get? b=some o')
  (tups:#v[u]) (frzs:∀b o u,H b=some (.frz o u)->H' b=some (.frz o u)) (tbls:∀b ps,H b=some (.tbl ps)->∃more,H' b=some (.tbl (ps++more)))
  (ns:∀m,s.heap.Ns X.env.locals m->h'.Ns X.env.locals m) (hok:HOk X.prog X.w H' h') (hg:AllBare g'):
  Inv X pins σ H' {s with heap:=h',gens:=g',drawn:=d',toks:=t'}:=by
 have neL:∀b o,X.s₀.heap.get? b=some o->b≠X.env.locals:=λb o e=>Aw (Be (Ar e) I.ok.above);have neC:∀b o,X.s₀.heap.get? b=some o->b∉X.ex->b∉ch:=λb o e hx hb=>by
  rcases (hch b hb).1 with z|z
  ·exact hx z
  ·exact absurd (Be (Ar e) z) (Dp _)
 have cellK:∀x c,X.env.cells.lookup x=some c->∀v,s.heap.IsCell c v->h'.IsCell c v:=λx c e v ⟨o,ho,hd⟩=>by
  have nch:c∉ch:=λz=>(hch c z).2.2.1 x c e rfl;by_cases hc:c∈X.fs
  ·obtain⟨sl,q⟩:=slot c o (I.cne x c e) hc nch ho (I.freeC x c e);exact#[_,q,hd]
  ·exact#[o,keep c o (I.cne x c e) hc nch ho (I.freeC x c e),hd]
 refine#[I.ok,I.os,hg,#[λb o e n hb hx=>?_,λb o e n hb hx=>?_,λb o e n hx=>?_,λb o e hx=>?_,λb xs e=>tups b xs (I.base.tups b xs e),λb o xs e=>frzs b o xs (I.base.frzs b o xs e),λb ps e=>?_],?_,λx c e=>?_,?_,λx c e=>?_,λp hp=>?_,hok,I.len]
 ·exact keep b o (neL b o e) hb (neC b o e hx) (I.base.keep b o e n hb hx) (I.base.free b o e n hx)
 ·obtain⟨sl,e1⟩:=I.base.slot b o e n hb hx;obtain⟨sl',e2⟩:=slot b _ (neL b o e) hb (neC b o e hx) e1 (I.base.free b o e n hx);exact#[sl',e2]
 ·obtain⟨o',e1⟩:=I.base.there b o e hx;exact free b o' (neC b o e hx) e1 (I.base.free b o e n hx)
 ·obtain⟨o',e1⟩:=I.base.there b o e hx;exact there b o' (neC b o e hx) e1
 ·obtain⟨m1,e1⟩:=I.base.tbls b ps e;obtain⟨m2,e2⟩:=tbls b _ e1;exact#[m1++m2,by rw[e2,Array.append_assoc]]
 ·obtain⟨m,hn,hl⟩:=I.loc;refine#[m,ns m hn,λi x v e1 e2 e3=>?_];obtain⟨u,r,l⟩:=hl i x v e1 e2 e3;refine#[u,r,?_];rcases l with l|⟨k,c,e,z⟩
  ·exact .inl l
  ·exact .inr #[k,c,e,cellK x c e _ z]
 ·obtain⟨v,z⟩:=I.cell x c e;exact#[v,cellK x c e v z]
 ·obtain⟨m,⟨o,_,_,ho,_⟩,_⟩:=I.loc;exact free _ o (λz=>(hch _ z).2.1 rfl) ho I.free
 ·obtain⟨v,o,ho,hd⟩:=I.cell x c e;exact free c o (λz=>(hch c z).2.2.1 x c e rfl) ho (I.freeC x c e)
 ·obtain⟨e,n,ne,nf,d⟩:=I.pin p hp;have nch:p.1∉ch:=λz=>(hch p.1 z).2.2.2 p hp rfl;exact#[keep p.1 p.2 ne nf nch e n,free p.1 p.2 nch e n,ne,nf,d]
def Inv.un(I:#v[4])(u:Un X.fs [] H H' s.heap h')(hok:HOk X.prog X.w H' h'):Inv X pins σ H' {s with heap:=h',toks:=t'}:=by
 obtain⟨m,⟨o,es,ep,ho,r⟩,_⟩:=id I.loc;obtain⟨sl,hL⟩:=u.any ho I.free (by simp);exact I.step (g':=s.gens) (d':=s.drawn) (ch:=[]) (λ_ z=>nomatch z) (λb o _ hb _ e n=>u.keep b o e n hb (by simp)) (λb o _ hb _ e n=>u.slot b o e n hb (by simp)) (λb o _ e n=>u.free b o e n (by simp)) (λb o _ e=>u.there b o e (by simp)) u.tups u.frzs u.tbls (λm' hm=>by
  obtain⟨o',es',ep',ho',r'⟩:=hm;rw[ho]at ho';cases ho';exact#[_,es',ep',hL,r']) hok I.bare
def Inv.call{d':Drawn}(I:#v[4])(u:Un (frs X.stack) ch H H' s.heap h')(hok:HOk X.prog X.w H' h')(hg:AllBare g')
  (hch:#v[o]):
  Inv X pins σ H' {s with heap:=h',gens:=g',drawn:=d',toks:=t'}:=by
 obtain⟨m,⟨o,es,ep,ho,r⟩,_⟩:=id I.loc;obtain⟨sl,hL⟩:=u.any ho I.free λz=>(hch _ z).2.1 rfl;exact I.step (ch:=ch) hch (λb o hL hb hc e n=>u.keep b o e n (λz=>(List.mem_cons.mp (I.stkSub b z)).elim hL hb) hc) (λb o _ _ hc e n=>u.any e n hc) (λb o hc e n=>u.free b o e n hc) (λb o hc e=>u.there b o e hc) u.tups u.frzs u.tbls (λm' hm=>by
  obtain⟨o',es',ep',ho',r'⟩:=hm;rw[ho]at ho';cases ho';exact#[_,es',ep',hL,r']) hok hg
def Inv.turned{it:Addr}(I:#v[4])(k:∀b o,b≠it->s.heap.get? b=some o->h'.get? b=some o)(hn:H it=none)(hL:it≠X.env.locals)
  (h1:it∈X.ex∨X.s₀.heap.objs.size<=it) (h2:∀x c,X.env.cells.lookup x=some c->c≠it) (h3:∀p∈X.pn++pins,p.1≠it):Inv X pins σ H {s with heap:=h',toks:=t'}:=by
 have nit:∀b u,H b=some u->b≠it:=λb u e z=>by rw[z,hn]at e;cases e
 refine I.step (g':=s.gens) (d':=s.drawn) (ch:=[it]) (λb hb=>?_) (λb o _ _ hc e _=>k b o (λz=>hc (by simp[z])) e) (λb o _ _ hc e _=>#[o.slots,k b o (λz=>hc (by simp[z])) e]) (λ_ _ _ _ n=>n)
  (λb o hc e=>#[o,k b o (λz=>hc (by simp[z])) e]) (λ_ _ e=>e) (λ_ _ _ e=>e) (λb ps e=>#[(List.toArray []),by rw[e];simp]) (λm hm=>?_) (λb u e=>?_) I.bare
 ·have e:b=it:=by simpa using hb
  subst e;exact#[h1,hL,h2,h3]
 ·obtain⟨o,es,ep,ho,r⟩:=hm;exact#[o,es,ep,k _ o (Cg hL) ho,r]
 ·refine(I.hok b u e).stay (λc v hc q=>k c v ?_ q) (λ_ q=>q) λ_ _ q=>q;rcases hc with z|z
  ·rw[z];exact nit b u e
  ·exact nit c _ z
def Inv.tok(I:#v[4])(t:Nat):Inv X pins σ H {s with toks:=t}:=I.un (h':=s.heap) (t':=t) Un.refl I.hok
def Inv.kept(I:#v[4])(k:∀b u,s.heap.get? b=some u->h'.get? b=some u):Inv X pins σ H {s with heap:=h',toks:=t'}:=I.un (Un.kept k) (I.hok.kept k)
def Inv.laid{a:Addr}{o:HO}(I:#v[4])(k:∀b u,s.heap.get? b=some u->h'.get? b=some u)(hp:#v[0]<=a)(new:bO X.prog X.w (upd H a o) h' a o):
  Inv X pins σ (upd H a o) {s with heap:=h',toks:=t'}:=I.un (Un.laid k hp (I.hok.fresh hp)) (I.hok.laid k hp new)
def Inv.write{x e:Addr}{o:HO}(I:#v[4])(mu:Mut (H x))(he:e=x∨H e=some (.own x))(k:∀b u,b≠e->s.heap.get? b=some u->h'.get? b=some u)(heo:∃u,h'.get? e=some u)
  (new:bO X.prog X.w (upd H x o) h' x o):Inv X pins σ (upd H x o) {s with heap:=h',toks:=t'}:=I.un (Un.write mu he k heo) (I.hok.write mu he k heo new)
def Inv.pins_of(I:#v[4])(h:∀p∈pins',s.heap.get? p.1=some p.2/\H p.1=none/\p.1≠X.env.locals/\p.1∉X.fs/\∀v,p.2.data≠.cell v):Inv X pins' σ H s:=
 #[I.ok,I.os,I.bare,I.base,I.loc,I.cell,I.free,I.freeC,λp hp=>#v[74].elim (λz=>I.pin p (Bf _ z)) (h p),I.hok,I.len]
def aFa{N:List Str}(hN:N.Nodup){i j:Nat}{x:Str}(a:N[i]? =some x)(b:N[j]? =some x):i=j:=by
 obtain⟨h1,e1⟩:=List.getElem?_eq_some_iff.mp a;obtain⟨h2,e2⟩:=List.getElem?_eq_some_iff.mp b;exact(Io hN).mp (e1.trans e2.symm)
abbrev ND(x:Str):Prop:=(x==("__debug__":Str))=false
abbrev BT(X:Cx)(pos:Pos)(es:List Expr):Prop:=(backTo pos (starEach es X.env)).any (·.1)=false
abbrev FL(X:Cx)(x:Str):Prop:=X.fn x=true∨X.env.scope.names.lookup x=some .local
abbrev NC(x:Str):Prop:=(x==("__classdict__":Str))=false
abbrev SE(X:Cx)(e:Expr)(es:List Expr):Prop:=starEach (e::es) X.env=(false,eval e X.env)::starEach es X.env
abbrev FS(X:Cx)(e:Expr):Prop:=∀x,foldedSetIterable e X.env x=pure x
abbrev HC(X:Cx):Prop:=∀x,X.env.scope.names.lookup x=some .cell->∃c,X.env.cells.lookup x=some c
abbrev EL(a b:Pos):Prop:=(a.endLine==b.line)=true
def wF{M:Model}{x:Str}{v:V}{Q:Unit->Shared->Prop}(I:#v[4])(hN:X.N.Nodup)(hi:X.N[i]? =some x)(hx:#v[C])(r:RelV v u)
  (h:∀s',Inv X pins (σ.set i (some v)) H s'->(∃a,Dv a s.heap s'.heap/\(a=X.env.locals∨X.env.cells.lookup x=some a))->Q () s') (hf:FL X x:=by trivial):wpAny M A (storeName X.env x u) Q E s:=by
 obtain⟨m,hn,hl⟩:=id I.loc;have hcls:(X.env.scope.kind== .class || (X.env.scope.kind== .module && X.env.locals != X.env.globals))=false:=by rw[I.ok.kind];rfl
 have hiσ:i<σ.length:=by rw[I.len];exact(List.getElem?_eq_some_iff.mp hi).1
 have cne:=I.cne;have tracked:∀{a:Addr}{h':Heap},(∃o,s.heap.get? a=some o/\H a=none)->Dv a s.heap h'->HOk X.prog X.w H h':=λ{a h'} ha hs b ob e=>by
  obtain⟨_,_,hfree⟩:=ha;refine(I.hok b ob e).stay (λc w' hc q=>(hs.2 c ?_).trans q) (λ_ q=>q) λ_ _ q=>q;rintro rfl;rcases hc with rfl|hc
  ·rw[hfree]at e;cases e
  ·rw[hfree]at hc;cases hc
 rcases hx with hk|hk
 ·refine wpAny_storeName_local hk hn (λh' hn' hs=>?_) hcls;obtain⟨oL,_,_,hoL,_⟩:=id hn;refine h _ #[I.ok,I.os,I.bare,#[λb o e n hb hx=>?_,λb o e n hb hx=>?_,I.base.free,λb o e hx=>?_,I.base.tups,I.base.frzs,I.base.tbls],#[_,hn',λj y v' e1 e2 e3=>?_],λy c e=>?_,I.free,I.freeC,λp hp=>?_,tracked #[oL,hoL,I.free] hs,by simpa using I.len] #[_,hs,.inl rfl]
  ·exact(hs.2 b (Aw (Be (Ar e) I.ok.above))).trans (I.base.keep b o e n hb hx)
  ·obtain⟨sl,e1⟩:=I.base.slot b o e n hb hx;exact#[sl,(hs.2 b (Aw (Be (Ar e) I.ok.above))).trans e1]
  ·obtain⟨o',e1⟩:=I.base.there b o e hx;exact#[o',(hs.2 b (Aw (Be (Ar e) I.ok.above))).trans e1]
  ·by_cases hj:j=i
   ·subst hj;rw[hi]at e1;cases e1;rw[Gi hiσ]at e2;cases e2;exact#[u,r,.inl #[hk,by simp]]
   ·rw[Dr (Cg hj)]at e2;obtain⟨u',r',q⟩:=hl j y v' e1 e2 e3;refine#[u',r',?_];rcases q with ⟨k,e⟩|⟨k,c,e,z⟩
    ·refine .inl #[k,?_];have:y≠x:=λe=>hj (aFa hN e1 (e▸hi));simp[this,e]
    ·exact .inr #[k,c,e,z.sameBut hs (cne y c e)]
  ·obtain⟨w',z⟩:=I.cell y c e;exact#[w',z.sameBut hs (cne y c e)]
  ·obtain⟨e,n,ne,nf,d⟩:=I.pin p hp;exact#[(hs.2 p.1 ne).trans e,n,ne,nf,d]
 ·have hfn:X.fn x=true:=by
   rcases hf with z|z
   ·exact z
   ·rw[z]at hk;cases hk
  obtain⟨c,hc⟩:=I.ok.has x (.inl hk);obtain⟨w',z⟩:=I.cell x c hc;refine wpAny_storeName_cell I.ok.kind hk hc z (λh' hc' hs=>?_);obtain⟨oc,hoc,hocd⟩:=id z;refine h {s with heap:=h'} #[I.ok,I.os,I.bare,#[λb o e n hb hx=>?_,λb o e n hb hx=>?_,I.base.free,λb o e hx=>?_,I.base.tups,I.base.frzs,I.base.tbls],#[m,hn.sameBut hs (Cg (cne x c hc)),λj y v' e1 e2 e3=>?_],λy c' e=>?_,I.free,I.freeC,λp hp=>?_,tracked #[oc,hoc,I.freeC x c hc] hs,by simpa using I.len] #[c,hs,.inr hc]
  ·exact(hs.2 b (Aw (Be (Ar e) (I.ok.cab x c hfn hc)))).trans (I.base.keep b o e n hb hx)
  ·obtain⟨sl,e1⟩:=I.base.slot b o e n hb hx;exact#[sl,(hs.2 b (Aw (Be (Ar e) (I.ok.cab x c hfn hc)))).trans e1]
  ·obtain⟨o',e1⟩:=I.base.there b o e hx;exact#[o',(hs.2 b (Aw (Be (Ar e) (I.ok.cab x c hfn hc)))).trans e1]
  ·by_cases hj:j=i
   ·subst hj;rw[hi]at e1;cases e1;rw[Gi hiσ]at e2;cases e2;exact#[u,r,.inr #[.inl hk,c,hc,hc']]
   ·rw[Dr (Cg hj)]at e2;obtain⟨u',r',q⟩:=hl j y v' e1 e2 e3;refine#[u',r',?_];rcases q with q|⟨k,c',e,z'⟩
    ·exact .inl q
    ·refine .inr #[k,c',e,z'.sameBut hs ?_];rintro rfl;exact hj (aFa hN e1 (I.ok.inj _ _ _ e hc▸hi))
  ·by_cases hcc:c'=c
   ·subst hcc;exact#[_,hc']
   ·obtain⟨w2,z2⟩:=I.cell y c' e;exact#[w2,z2.sameBut hs hcc]
  ·obtain⟨e,n,ne,nf,d⟩:=I.pin p hp;refine#[(hs.2 p.1 ?_).trans e,n,ne,nf,d];intro q;rw[q,hoc]at e;have q':oc=p.2:=Bi e;exact d w' (by rw[<-q'];exact hocd)
def aEm{x:Str}{Q:Unit->Shared->Prop}(I:#v[4])(hN:X.N.Nodup)(hi:X.N[i]? =some x)(hx:#v[C])(r:RelV v u)
  (h:∀s',Inv X pins (σ.set i (some v)) H s'->Q () s') (hf:FL X x:=by trivial):wpAny M A (storeName X.env x u) Q E s:=
 wF I hN hi hx r (λs' I' _=>h s' I') hf
def Inv.call'(I:#v[4])(ho:s'.os=s.os)(u:Un (frs X.stack) ch H H' s.heap s'.heap)(hok:HOk X.prog X.w H' s'.heap)(hg:AllBare s'.gens)
  (hch:#v[o]):Inv X pins σ H' s':=by
 obtain⟨h',g',d',t',o'⟩:=s';have e:o'=s.os:=ho;subst e;exact I.call (g':=g') (t':=t') (d':=d') u hok hg hch
abbrev XK:=Value->Option Addr->Hp->Prop
abbrev St:=List (Option V)
abbrev VK:=V->Hp->Prop
abbrev TE:=St->Hp->VK->Prop
abbrev TT:=St->Hp->(Bool->Hp->Prop)->Prop
abbrev TA:=St->Hp->(List V->Hp->Prop)->Prop
structure Ends where
 nx:St->Hp->Prop
 rt:VK
 bk:St->Hp->Prop:=λ_ _=>False
 ct:St->Hp->Prop:=λ_ _=>False
abbrev TS:=Ends->St->Hp->Prop
inductive IEP(X:Cx)(pins:#v[8])(σ:St)(Q:VK)(u:Value)(s':Shared):Prop
 |mk (v H':_) (q0_:Inv X pins σ H' s') (q1_:RelV v u) (q2_:Q v H'):IEP X pins σ Q u s'
def EP(X:Cx)(pins:#v[8])(σ:St)(Q:VK)(u:Value)(s':Shared):Prop:=IEP X pins σ Q u s'
def TP(X:Cx)(pins:#v[8])(σ:St)(Q:Bool->Hp->Prop)(b:Bool)(s':Shared):Prop:=∃H',Inv X pins σ H' s'/\Q b H'
inductive IAP(X:Cx)(pins:#v[8])(σ:St)(Q:List V->Hp->Prop)(us:List Value)(s':Shared):Prop
 |mk (vs H':_) (q0_:Inv X pins σ H' s') (q1_:Vals vs us) (q2_:Q vs H'):IAP X pins σ Q us s'
def AP(X:Cx)(pins:#v[8])(σ:St)(Q:List V->Hp->Prop)(us:List Value)(s':Shared):Prop:=IAP X pins σ Q us s'
def SP(X:Cx)(pins:#v[8])(D:Ends)(f:Flow)(s':Shared):Prop:=
 match f with
 |.next=>∃σ' H',Inv X pins σ' H' s'/\D.nx σ' H'
 |.brk=>∃σ' H',Inv X pins σ' H' s'/\D.bk σ' H'
 |.cont=>∃σ' H',Inv X pins σ' H' s'/\D.ct σ' H'
 |.ret u=>∃v σ' H',Inv X pins σ' H' s'/\RelV v u/\D.rt v H'
def PE(X:Cx)(e:Expr)(t:TE):Prop:=
 ∀(pins:#v[8])(s:Shared)(σ:St)(H:Hp)(Q:VK),#v[4]->t σ H Q->#v[6] (eval e X.env) #v[21] X.xe s
def PT(X:Cx)(e:Expr)(t:TT):Prop:=
 ∀(pins:#v[8])(s:Shared)(σ:St)(H:Hp)(Q:Bool->Hp->Prop),#v[4]->t σ H Q->#v[6] (isTrue e X.env (eval e X.env)) (TP X pins σ Q) X.xe s
def PW(X:Cx)(e:Expr)(t:TT):Prop:=
 ∀(whole:Sem Value)(pins:#v[8])(s:Shared)(σ:St)(H:Hp)(Q:Bool->Hp->Prop),#v[4]->t σ H Q->#v[6] (isTrue e X.env whole) (TP X pins σ Q) X.xe s
def PW.pt{X:Cx}{e:Expr}(h:PW X e t):PT X e t:=h _
def PA(X:Cx)(es:List Expr)(t:TA):Prop:=
 ∀(pos:Pos)(pins:#v[8])(s:Shared)(σ:St)(H:Hp)(Q:List V->Hp->Prop),#v[4]->t σ H Q->#v[6] (spliced (backTo pos (starEach es X.env))) (AP X pins σ Q) X.xe s
def PS(X:Cx)(st:Stmt)(t:TS):Prop:=
 ∀(pins:#v[8])(s:Shared)(σ:St)(H:Hp)(D:Ends),#v[4]->t D σ H->#v[6] (exec st X.env) (SP X pins D) X.xe s
def PSs(X:Cx)(st:List Stmt)(t:TS):Prop:=
 ∀(pins:#v[8])(s:Shared)(σ:St)(H:Hp)(D:Ends),#v[4]->t D σ H->#v[6] (execs st X.env) (SP X pins D) X.xe s
def thn{α:Type}{t:Sem α}{Q Q':α->Shared->Prop}{M:Model}{s:Shared}(h:wpAny M A t Q E s)(hQ:∀a s,Q a s->Q' a s):wpAny M A t Q' E s:=Es h hQ λ_ _ x=>x
section
variable {X:Cx}
inductive aT5(i:Nat)(σ:St)(H:Hp)(Q:VK):Prop
 |mk (v:_) (q0_:σ[i]? =some (some v)) (q1_:Q v H):aT5 i σ H Q
def bAh(i:Nat):TE:=λσ H Q=>aT5 i σ H Q
def tC(v:V):TE:=λ_ H Q=>Q v H
def pA{x:Str}(hN:X.N[i]? =some x)(hv:#v[80])(hd:ND x:=by decide)(hcd:NC x:=by decide):PE X (.Name x pos) (bAh i):=by
 intro pins s σ H Q I h;obtain⟨v,e,h⟩:=h;obtain⟨m,hn,hl⟩:=I.loc;obtain⟨u,r,l⟩:=hl i x v hN e hv;have fin:EP X pins σ Q u s:=#[v,H,I,r,h];rcases l with ⟨hk,hm⟩|⟨hk,c,hc,hcell⟩
 ·exact Vf (wpAny_loadName_local I.ok.kind hk hn hm fin) hd
 ·rcases hk with hk|hk
  ·exact Vf (wpAny_loadName_cell I.ok.kind hk hc hcell fin) hd
  ·exact Vf (wpAny_loadName_free I.ok.kind hk hc hcell fin hcd) hd
def dU{i j pos}:PE X (.Constant (.int i) j pos) (tC (.int i)):=λ_ _ _ H _ I h=>wpAny_Constant_int #[.int i,H,I.tok _,#[_,rfl],h]
def aZi{b j pos}:PE X (.Constant (.bool b) j pos) (tC (.bl b)):=λ_ _ _ H _ I h=>Constant_bool #[.bl b,H,I,rfl,h]
def aVi{j pos}:PE X (.Constant .none j pos) (tC .non):=λ_ _ _ H _ I h=>Rt #[.non,H,I,rfl,h]
def aXa{x j pos}:PE X (.Constant (.str x) j pos) (tC (.str x)):=λ_ _ _ H _ I h=>Calls.Constant_str #[.str x,H,I.tok _,#[_,rfl],h]
def Gl(X:Cx)(x:Str):Prop:=X.env.kindOf x=some .globalImplicit
def aDq{pins:#v[8]}{s:Shared}{σ:St}{H:Hp}{x:Str}(I:#v[4])(hg:Gl X x)(hm:X.mg x=some u)(h:Q u s)
  (hd:ND x:=by decide):#v[6] (eval (.Name x pos) X.env) Q E s:=
 Nx I.ok.kind hg (Calls.loadGlobal_global (by rw[I.ok.glob];exact I.mod.glob.keeps I.bk) hm h) hd
def oU{pins:#v[8]}{s:Shared}{σ:St}{H:Hp}{x:Str}(I:#v[4])(hg:Gl X x)(hm:X.mg x=none)(hv:bootBuiltins x=some u)(h:Q u s)
  (hn:x≠"__name__":=by decide) (hd:ND x:=by decide):#v[6] (eval (.Name x pos) X.env) Q E s:=by
 obtain⟨mb,h1,h2⟩:=I.mod.blt;exact Nx I.ok.kind hg (Calls.loadGlobal_builtin (by rw[I.ok.glob];exact I.mod.glob.keeps I.bk) hm (by rw[I.ok.blt];exact h1.keeps I.bk) ((h2 x hn).trans hv) h) hd
def aRg{x:Str}(hg:Gl X x)(hm:X.mg x=some u)(r:RelV v u)(hd:ND x:=by decide):PE X (.Name x pos) (tC v):=
 λ_ _ _ H _ I h=>aDq I hg hm #[v,H,I,r,h] hd
def aJ5{x:Str}(hg:Gl X x)(hm:X.mg x=none)(hv:bootBuiltins x=some u)(r:RelV v u)(hn:x≠"__name__":=by decide)(hd:ND x:=by decide):PE X (.Name x pos) (tC v):=
 λ_ _ _ H _ I h=>oU I hg hm hv #[v,H,I,r,h] hn hd
variable {a b:Expr}{ta tb:TE}{pos:Pos}
def PC(X:Cx)(op:CmpOp)(a b:Expr)(t:TE):Prop:=
 ∀(pins:#v[8])(s:Shared)(σ:St)(H:Hp)(Q:VK),#v[4]->t σ H Q->
  #v[6] (eval a X.env) (λv s₁=>#v[6] (eval b X.env) (λu s₂=>#v[6] (compareOp op v u) #v[21] X.xe s₂) X.xe s₁) X.xe s
def aGg(b:Expr)(h:op≠.In)(h2:op≠.NotIn):behindInMarks op b=false:=by
 have e1:(op==CmpOp.In)=false:=by cases op<;>first|rfl|exact absurd rfl h
 have e2:(op==Vv)=false:=by cases op<;>first|rfl|exact absurd rfl h2
 cases b<;>simp[behindInMarks,e1,e2]
def bAm(ta:TE):TE:=λσ H Q=>ta σ H λx H1=>Q (.bl (decide (x=.non))) H1
def aUr(ta:TE):TE:=λσ H Q=>ta σ H λx H1=>Q (.bl (!decide (x=.non))) H1
def RelV.none_iff{x:V}(r:RelV x v):(v==Bn)=decide (x=.non):=by
 cases x with
 |non=>cases r;rfl
 |bl _=>cases r;rfl
 |int _=>obtain⟨t,rfl⟩:=r;rfl
 |str _=>obtain⟨t,rfl⟩:=r;rfl
 |byt _=>obtain⟨t,rfl⟩:=r;rfl
 |flt _=>obtain⟨t,rfl⟩:=r;rfl
 |ref _=>cases r;rfl
 |ty _=>cases r;rfl
def aWb{j pos'}(ha:PE X a ta):PC X .Is a (.Constant .none j pos') (bAm ta):=by
 intro pins s σ H Q I h;refine thn #v[r] λv s1 ⟨x,H1,I1,r1,q1⟩=>?_;exact Rt (is_none_gen #[.bl _,H1,I1,by rw[r1.none_iff];rfl,q1])
def aRw{j pos'}(ha:PE X a ta):PC X .IsNot a (.Constant .none j pos') (aUr ta):=by
 intro pins s σ H Q I h;refine thn #v[r] λv s1 ⟨x,H1,I1,r1,q1⟩=>?_;exact Rt (isnot_none_gen #[.bl _,H1,I1,by rw[r1.none_iff];rfl,q1])
inductive aY6(x:V)(H:Hp)(Q:Bool->Hp->Prop):Prop
 |mk (c:_) (q0_:x=.bl c) (q1_:Q c H):aY6 x H Q
def rBl(x:V)(H:Hp)(Q:Bool->Hp->Prop):Prop:=aY6 x H Q
def tB(t:TE):TT:=λσ H Q=>t σ H λx H1=>rBl x H1 Q
def aGy{op:CmpOp}{t:TE}(h:PC X op a b t)(h1:behindInMarks op b=false:=by first|exact aGg _ ⋯ ⋯|rfl):PT X (.Compare a [op] [b] pos) (tB t):=by
 intro pins s σ H Q I hw;refine Se (thn (h pins s σ H _ I hw) λv s1 h1=>thn h1 λu s2 h2=>thn h2 λc s3 ⟨x,H1,I1,r1,q1⟩=>?_) h1;obtain⟨d,rfl,q⟩:=q1;cases r1;exact Dl #[H1,I1,q]
def aVr{e:Expr}{t:TE}(h:PE X e t)(he:∀whole,isTrue e X.env whole=(do let v<-whole;standAt e.pos;holding [v] (truthy v)):=by intro _;rfl):PT X e (tB t):=by
 intro pins s σ H Q I hw;refine isTrue_plain (thn (h pins s σ H _ I hw) λv s1 ⟨x,H1,I1,r1,q1⟩=>?_) (he _);obtain⟨d,rfl,q⟩:=q1;cases r1;exact Dl #[H1,I1,q]
variable {tA tB':TT}{rest:List Expr}
def bB0(t u:TT):TT:=λσ H Q=>t σ H λc H1=>if c=true then u σ H1 Q else Q false H1
def tOr(t u:TT):TT:=λσ H Q=>t σ H λc H1=>if c=true then Q true H1 else u σ H1 Q
def bA8(t:TT):TT:=λσ H Q=>t σ H λc H1=>Q (!c) H1
def aRr(ha:PT X a tA):PW X (.BoolOp .And [a] pos) tA:=by
 intro wh pins s σ H Q I h;refine isTrue_and (thn (ha pins s σ H Q I h) λc s1 e=>?_);cases c with
 |true=>exact isTrue_and_nil e
 |false=>exact e
def aXo(ha:PT X a tA):PW X (.BoolOp .Or [a] pos) tA:=by
 intro wh pins s σ H Q I h;refine isTrue_or (thn (ha pins s σ H Q I h) λc s1 e=>?_);cases c with
 |false=>exact isTrue_or_nil e
 |true=>exact e
def aVa(ha:PT X a tA)(hb:PW X (.BoolOp .And (b::rest) pos) tB'):PW X (.BoolOp .And (a::b::rest) pos) (bB0 tA tB'):=by
 intro wh pins s σ H Q I h;refine isTrue_and (thn #v[r] λc s1 ⟨H1,I1,q1⟩=>?_);cases c with
 |true=>exact hb wh pins s1 σ H1 Q I1 q1
 |false=>exact#[H1,I1,q1]
def aYh(ha:PT X a tA)(hb:PW X (.BoolOp .Or (b::rest) pos) tB'):PW X (.BoolOp .Or (a::b::rest) pos) (tOr tA tB'):=by
 intro wh pins s σ H Q I h;refine isTrue_or (thn #v[r] λc s1 ⟨H1,I1,q1⟩=>?_);cases c with
 |true=>exact#[H1,I1,q1]
 |false=>exact hb wh pins s1 σ H1 Q I1 q1
def aX3(ha:PT X a tA):PT X (.UnaryOp .Not a pos) (bA8 tA):=by
 intro pins s σ H Q I h;exact isTrue_not (ha pins s σ H (λc H1=>Q (!c) H1) I h)
def aZx(ta tb:TE):TE:=λσ H Q=>ta σ H λx H1=>∃c,x=.bl c/\if c=true then tb σ H1 Q else Q (.bl false) H1
def bB5(ta tb:TE):TE:=λσ H Q=>ta σ H λx H1=>∃c,x=.bl c/\if c=true then Q (.bl true) H1 else tb σ H1 Q
def bAu(ta:TE):TE:=λσ H Q=>ta σ H λx H1=>∃c,x=.bl c/\Q (.bl (!c)) H1
def aVo{op}(h:PE X a t):PE X (.BoolOp op [a] pos) t:=λpins s σ H Q I hw=>BoolOp_one (h pins s σ H Q I hw)
def aU9(ha:PE X a ta)(hb:PE X (.BoolOp .And (b::rest) pos) tb):PE X (.BoolOp .And (a::b::rest) pos) (aZx ta tb):=by
 intro pins s σ H Q I h;refine BoolOp_and (thn #v[r] λv s1 ⟨x,H1,I1,r1,q1⟩=>?_);obtain⟨c,rfl,q1⟩:=q1;cases r1;refine Dl ?_;cases c with
 |true=>exact hb pins s1 σ H1 Q I1 q1
 |false=>exact#[.bl false,H1,I1,rfl,q1]
def bAq(ha:PE X a ta)(hb:PE X (.BoolOp .Or (b::rest) pos) tb):PE X (.BoolOp .Or (a::b::rest) pos) (bB5 ta tb):=by
 intro pins s σ H Q I h;refine BoolOp_or (thn #v[r] λv s1 ⟨x,H1,I1,r1,q1⟩=>?_);obtain⟨c,rfl,q1⟩:=q1;cases r1;refine Dl ?_;cases c with
 |false=>exact hb pins s1 σ H1 Q I1 q1
 |true=>exact#[.bl true,H1,I1,rfl,q1]
def aV7(ha:PE X a ta):PE X (.UnaryOp .Not a pos) (bAu ta):=by
 intro pins s σ H Q I h;refine UnaryOp_ (thn #v[r] λv s1 ⟨x,H1,I1,r1,q1⟩=>?_);obtain⟨c,rfl,q1⟩:=q1;cases r1;exact not_of (Dl #[.bl (!c),H1,I1,rfl,q1])
end
def SqL(K:Ad)(H:Hp)(a:Addr)(xs:List V):Prop:=
 Rd H a (.lst xs)∨
  ∃(o:Obj)(its:Array Value)(n:Nat),K.lookup a=some o/\o.cls=.type "list"/\o.dict=none/\o.data=.seq its n/\its.size<=sizeLine/\Vals xs its.toList
def SqT(K:Ad)(H:Hp)(a:Addr)(xs:List V):Prop:=
 Rd H a (.tup xs)∨
  ∃(o:Obj)(its:Array Value)(n:Nat),K.lookup a=some o/\o.cls=.type "tuple"/\o.data=.seq its n/\its.size<=sizeLine/\Vals xs its.toList
def bBe:Value->Option V
 |.none=>some .non
 |.bool b=>some (.bl b)
 |.int i _=>some (.int i)
 |.str x _=>some (.str x)
 |.bytes b _=>some (.byt b)
 |.float b _=>some (.flt b)
 |.ref a=>some (.ref a)
 |.type n=>some (.ty n)
 |_=>none
def RelV.abs{x:V}(r:RelV x u):bBe u=some x:=by
 cases x with
 |non=>cases r;rfl
 |bl _=>cases r;rfl
 |int _=>obtain⟨t,rfl⟩:=r;rfl
 |str _=>obtain⟨t,rfl⟩:=r;rfl
 |byt _=>obtain⟨t,rfl⟩:=r;rfl
 |flt _=>obtain⟨t,rfl⟩:=r;rfl
 |ref _=>cases r;rfl
 |ty _=>cases r;rfl
def RelV.inj{x y:V}(r:RelV x u)(q:RelV y u):x=y:=Bi (r.abs.symm.trans q.abs)
def Vals.inj:∀{xs ys:List V}{us:List Value},Vals xs us->Vals ys us->xs=ys
 |_,_,_,.nil,.nil=>rfl
 |_,_,_,.cons r t,.cons r' t'=>by rw[r.inj r',Vals.inj t t']
section
variable {X:Cx}{pins:#v[8]}{σ:St}{H:Hp}{s:Shared}{a:Addr}{xs ys:List V}
def SqL.of{K:Ad}(h:H a=some (.lst xs)):SqL K H a xs:=.inl (.inl h)
def SqT.of{K:Ad}(h:H a=some (.tup xs)):SqT K H a xs:=.inl (.inl h)
def Inv.list(I:#v[4])(h:SqL X.K H a xs):∃its:List Value,Vals xs its/\PlainL s.heap a its.toArray/\xs.length<=sizeLine:=by
 rcases h with h|⟨o,its,n,hk,hc,hd,hs,hz,r⟩
 ·obtain⟨z,its,n,r,e⟩:=h.ok I.hok;exact#[its,r,#[_,n,e,rfl,rfl,rfl],z]
 ·refine#[its.toList,r,#[o,n,I.kIn a o hk,hc,hd,by simpa using hs],?_];have e:=r.length;simp only[As]at e
  lia
def Inv.tuple(I:#v[4])(h:SqT X.K H a xs):∃its:List Value,Vals xs its/\IsTup s.heap a its.toArray/\xs.length<=sizeLine:=by
 rcases h with h|⟨o,its,n,hk,hc,hs,hz,r⟩
 ·obtain⟨z,its,r,p⟩:=h.ok I.hok;exact#[its,r,p,z]
 ·refine#[its.toList,r,#[o,I.kIn a o hk,hc,n,by simpa using hs],?_];have e:=r.length;simp only[As]at e
  lia
def Inv.list_inj(I:#v[4])(h:SqL X.K H a xs)(h':SqL X.K H a ys):xs=ys:=by
 obtain⟨its,r,⟨o,n,e,_,_,d⟩,_⟩:=I.list h;obtain⟨its',r',⟨o',n',e',_,_,d'⟩,_⟩:=I.list h';rw[e]at e';cases e';rw[d]at d';injection d' with d1 _
 have:its=its':=by simpa using congrArg Vc d1
 subst this;exact r.inj r'
def Inv.tuple_inj(I:#v[4])(h:SqT X.K H a xs)(h':SqT X.K H a ys):xs=ys:=by
 obtain⟨its,r,⟨o,e,_,n,d⟩,_⟩:=I.tuple h;obtain⟨its',r',⟨o',e',_,n',d'⟩,_⟩:=I.tuple h';rw[e]at e';cases e';rw[d]at d';injection d' with d1 _
 have:its=its':=by simpa using congrArg Vc d1
 subst this;exact r.inj r'
end
abbrev Cx.wish(X:Cx)(E:#v[7]):Cx:={X with xe:=E}
abbrev Cx.nox(X:Cx):Cx:=X.wish λ_ _=>False
def Cx.Ok.wish{X:Cx}(ok:X.Ok)(E:#v[7]):(X.wish E).Ok:=
 #[ok.mod,ok.kind,ok.glob,ok.blt,ok.above,ok.inj,ok.has,ok.cab,ok.hd,ok.frames,ok.stk,ok.exf,ok.bs,ok.bsz,ok.noex,ok.exfs,ok.funs,ok.frf]
def Cx.Ok.unwish{X:Cx}(ok:(X.wish E).Ok):X.Ok:=
 #[ok.mod,ok.kind,ok.glob,ok.blt,ok.above,ok.inj,ok.has,ok.cab,ok.hd,ok.frames,ok.stk,ok.exf,ok.bs,ok.bsz,ok.noex,ok.exfs,ok.funs,ok.frf]
section
variable {X:Cx}{pins:#v[8]}{σ:St}{H:Hp}{s:Shared}{E:#v[7]}
def Inv.wish(I:#v[4])(E:#v[7]):Inv (X.wish E) pins σ H s:=#[I.ok.wish E,I.os,I.bare,I.base,I.loc,I.cell,I.free,I.freeC,I.pin,I.hok,I.len]
def Inv.unwish(I:Inv (X.wish E) pins σ H s):#v[4]:=#[I.ok.unwish,I.os,I.bare,I.base,I.loc,I.cell,I.free,I.freeC,I.pin,I.hok,I.len]
def SP.unwish(h:SP (X.wish E) pins D f s'):SP X pins D f s':=by
 cases f with
 |next=>obtain⟨σ',H',I,q⟩:=h;exact#[σ',H',I.unwish,q]
 |brk=>obtain⟨σ',H',I,q⟩:=h;exact#[σ',H',I.unwish,q]
 |cont=>obtain⟨σ',H',I,q⟩:=h;exact#[σ',H',I.unwish,q]
 |ret u=>obtain⟨v,σ',H',I,r,q⟩:=h;exact#[v,σ',H',I.unwish,r,q]
def PSs.nox{st:List Stmt}{t:TS}(h:PSs X.nox st t):PSs X st t:=λpins s σ H D I hw=>
 Es (h pins s σ H D (I.wish _) hw) (λ_ _ q=>q.unwish) λ_ _ z=>Ft z
end
section
variable {X:Cx}{st:Stmt}{rest:List Stmt}{t u:TS}{e:Expr}{te:TE}{pos:Pos}
def aYx:TS:=λD σ H=>D.nx σ H
def bA1(t u:TS):TS:=λD σ H=>t {D with nx:=u D} σ H
def gC:PSs X [] aYx:=λ_ _ σ H _ I h=>Lo #[σ,H,I,h]
def bB(h1:PS X st t)(h2:PSs X rest u):PSs X (st::rest) (bA1 t u):=by
 intro pins s σ H D I h;refine Vz (thn (h1 pins s σ H {D with nx:=u D} I h) λf s1 q=>?_);cases f with
 |next=>
  obtain⟨σ',H',I',q⟩:=q;exact h2 pins s1 σ' H' D I' q
 |ret v=>exact q
 |brk=>exact q
 |cont=>exact q
def cW(h1:PS X st t):PSs X [st] t:=by
 intro pins s σ H D I h;refine Vz (thn (h1 pins s σ H D I h) λf s1 q=>?_);cases f with
 |next=>exact Lo q
 |ret v=>exact q
 |brk=>exact q
 |cont=>exact q
def Inv.quiet{pins:#v[8]}{σ:St}{H:Hp}{s:Shared}(I:#v[4]):interactive X.env=false:=by simp[interactive,I.ok.kind]
def aX5(te:TE):TS:=λD σ H=>te σ H λ_ H1=>D.nx σ H1
def qW(he:PE X e te)(hs:swapsWith e none pos.line X.env=pure false:=by rfl):PS X (.Expr e pos) (aX5 te):=by
 intro pins s σ H D I h;exact wpAny_Expr_any (thn #v[47] λv s1 ⟨x,H1,I1,r1,q1⟩=>#[σ,H1,I1,q1]) I.quiet hs
def bB1(te:TE):TS:=λD σ H=>te σ H D.rt
def wW(he:PE X e te):PS X (.Return (some e) pos) (bB1 te):=by
 intro pins s σ H D I h;exact wpAny_Return_some (thn #v[47] λv s1 ⟨x,H1,I1,r1,q1⟩=>#[x,σ,H1,I1,r1,q1])
def bBt(c:TT)(t u:TS):TS:=λD σ H=>c σ H λb H1=>if b=true then t D σ H1 else u D σ H1
def pW{c:Expr}{a b:List Stmt}{tc:TT}(hc:PT X c tc)(ha:PSs X a t)(hb:PSs X b u):PS X (.If c a b pos) (bBt tc t u):=by
 intro pins s σ H D I h;refine wpAny_If (thn (hc pins s σ H _ I h) λd s1 ⟨H1,I1,q1⟩=>?_);cases d with
 |true=>exact ha pins s1 σ H1 D I1 q1
 |false=>exact hb pins s1 σ H1 D I1 q1
def aV0:TS:=λ_ _ _=>False
def gA:PS X st aV0:=λ_ _ _ _ _ _ h=>h.elim
end
abbrev TG:=V->St->Hp->(St->Hp->Prop)->Prop
abbrev TGs:=List V->St->Hp->(St->Hp->Prop)->Prop
def PG(X:Cx)(target:Expr)(t:TG):Prop:=
 ∀(pins:#v[8])(s:Shared)(σ:St)(H:Hp)(v:V)(u:Value)(Q:St->Hp->Prop),#v[4]->RelV v u->t v σ H Q->
  #v[6] (assign target X.env u) (λ_ s'=>∃σ' H',Inv X pins σ' H' s'/\Q σ' H') X.xe s
def PGs(X:Cx)(ts:List Expr)(t:TGs):Prop:=
 ∀(pins:#v[8])(s:Shared)(σ:St)(H:Hp)(vs:List V)(us:List Value)(Q:St->Hp->Prop),#v[4]->Vals vs us->t vs σ H Q->
  #v[6] (assignInOrder ((assignEach ts X.env).map (·.2)) us) (λ_ s'=>∃σ' H',Inv X pins σ' H' s'/\Q σ' H') X.xe s
abbrev aW8:=V->V->V->Hp->(Hp->Prop)->Prop
def bAe(X:Cx)(t:aW8):Prop:=
 ∀(pins:#v[8])(s:Shared)(σ:St)(H:Hp)(o i v:V)(ov iv u:Value)(Q:Hp->Prop),#v[4]->RelV o ov->RelV i iv->RelV v u->t o i v H Q->
  #v[6] (setItem ov iv u) (λ_ s'=>∃H',Inv X pins σ H' s'/\Q H') X.xe s
variable {pos:Pos}
def pL(i:Nat):TG:=λv σ H Q=>Q (σ.set i (some v)) H
def aW{x:Str}(hN:X.N.Nodup)(hi:X.N[i]? =some x)(hx:#v[C])(hf:FL X x:=by trivial):PG X (.Name x pos) (pL i):=by
 intro pins s σ H v u Q I r h;exact Ny (aEm I hN hi hx r (λs' I'=>#[_,H,I',h]) hf)
def aYp:TGs:=λvs σ H Q=>vs=[]/\Q σ H
def aUc(t:TG)(u:TGs):TGs:=λvs σ H Q=>∃v r,vs=v::r/\t v σ H λσ' H'=>u r σ' H' Q
def tD:PGs X [] aYp:=by
 intro pins s σ H vs us Q I r h;obtain⟨e,h⟩:=h;subst e;cases r;exact assignInOrder_nil #[σ,H,I,h]
def fZ{e:Expr}{t:TG}{u:TGs}(h1:PG X e t)(h2:PGs X es u)
  (hs:(assignEach (e::es) X.env).map (·.2)=assign e X.env::(assignEach es X.env).map (·.2):=by rfl):PGs X (e::es) (aUc t u):=by
 intro pins s σ H vs us Q I r h;obtain⟨v,vr,e1,h⟩:=h;subst e1;cases r with
 |cons r rr=>
  rw[hs];refine assignInOrder_cons (thn (h1 pins s σ H _ _ _ I r h) λ_ s1 ⟨σ1,H1,I1,q1⟩=>?_);exact h2 pins s1 σ1 H1 _ _ Q I1 rr q1
inductive aT2(K:Ad)(n:Nat)(t:TGs)(v:V)(σ:St)(H:Hp)(Q:(St->Hp->Prop)):Prop
 |mk (a xs:_) (q0_:v=.ref a) (q1_:SqT K H a xs) (q2_:xs.length=n) (q3_:t xs σ H Q):aT2 K n t v σ H Q
def aY7(K:Ad)(n:Nat)(t:TGs):TG:=λv σ H Q=>aT2 K n t v σ H Q
def xP(hc:X.calm=true)(h:PGs X es t)
  (hn:(assignEach es X.env).length=n:=by rfl) (hst:(assignEach es X.env).findIdx? (·.1)=none:=by rfl):PG X (.Tuple es k pos) (aY7 X.K n t):=by
 intro pins s σ H v u Q I r hw;obtain⟨a,xs,e1,hq,hl,hw⟩:=hw;subst e1;cases r;obtain⟨its,rv,ht,hz⟩:=I.tuple hq;refine assign_Tuple_tuple #v[58] ht (by simp[hn, <-hl,rv.length]) hst λh' hx=>?_;have I1:Inv X pins σ H {s with heap:=h'}:=I.kept (t':=s.toks) λb o e=>hx b o (Aw (Ar e)) e;exact h pins _ σ H xs _ Q I1 (by simpa using rv) hw
def bBq(to ti:TE)(t:aW8):TG:=λv σ H Q=>to σ H λo H1=>ti σ H1 λi H2=>t o i v H2 λH3=>Q σ H3
def aIo{o i:Expr}{to ti:TE}{t:aW8}(ho:PE X o to)(hi:PE X i ti)(hs:bAe X t)
  (ha:∀v,assign (.Subscript o i pos) X.env v=(do
   let ov<-holding [v] (eval o X.env)
   let iv<-holding [v,ov] (eval i X.env)
   standAt pos
   holding [v,ov,iv] (setItem ov iv v)
   release [v,ov,iv] []):=by intro _;rfl):PG X (.Subscript o i pos) (bBq to ti t):=by
 intro pins s σ H v u Q I r h
 rw[ha]
 refine Aa (Bq (thn (ho pins s σ H _ I h) λov s1 ⟨x,H1,I1,r1,q1⟩=>?_))
 refine Aa (Bq (thn (hi pins s1 σ H1 _ I1 q1) λiv s2 ⟨y,H2,I2,r2,q2⟩=>?_))
 refine Aa (Ku (Aa (Bq (thn (hs pins s2 σ H2 x y v ov iv u _ I2 r1 r2 r q2) λ_ s3 ⟨H3,I3,q3⟩=>?_))))
 exact wpAny_release #[σ,H3,I3,q3]
def aE2(te:TE)(g:TG):TS:=λD σ H=>te σ H λx H1=>g x σ H1 D.nx
def aD2{tg e:Expr}{te:TE}{g:TG}(he:PE X e te)(hg:PG X tg g)(hs:swapsWithSole [tg] e pos.line X.env=pure false:=by rfl)(hw:swappedStores [tg] e X.env=pure none:=by rfl)
  (h1:(assignEach [tg] X.env).map (·.2)=[assign tg X.env]:=by rfl):PS X (.Assign [tg] e pos) (aE2 te g):=by
 intro pins s σ H D I h;refine wpAny_Assign_stores (thn #v[47] λv s1 ⟨x,H1,I1,r1,q1⟩=>?_) hs hw;rw[h1];exact thn (hg pins s1 σ H1 x v _ I1 r1 q1) λ_ s2 q=>q
def zY{x:Str}{e:Expr}{te:TE}{pos':Pos}(hN:X.N.Nodup)(hi:X.N[i]? =some x)(hx:#v[C])(he:PE X e te)(hs:swapsWith e (some (.Name x pos')) pos.line X.env=pure false:=by rfl)(hf:FL X x:=by trivial):
  PS X (.Assign [.Name x pos'] e pos) (aE2 te (pL i)):=by
 intro pins s σ H D I h;refine wpAny_Assign_Name (thn #v[47] λv s1 ⟨y,H1,I1,r1,q1⟩=>?_) hs;exact aEm I1 hN hi hx r1 (λs2 I2=>#[_,H1,I2,q1]) hf
inductive aJa(c:TT)(tb:TS)(D:Ends)(σ:St)(H:Hp):Prop
 |mk (W:Nat->St->Hp->Prop) (q0_:(∃m,W m σ H)) (q1_:∀m σ H,W m σ H->c σ H λb H1=>if b=true then∃N:St->Hp->Prop,(∀σ' H',N σ' H'->∃m',m'<m/\W m' σ' H')/\tb {D with nx:=N,ct:=N,bk:=D.nx} σ H1 else D.nx σ H1):aJa c tb D σ H
def aXd(c:TT)(tb:TS):TS:=λD σ H=>aJa c tb D σ H
def aO6{c:Expr}{tc:TT}{tb:TS}(hp:PassesOwn #v[p] X.A X.env X.xe)(hc:PT X c tc)(hb:PSs X body tb):PS X (.While c body [] pos) (aXd tc tb):=by
 intro pins s σ H D I h;obtain⟨W,⟨m0,w0⟩,turn⟩:=h;refine wpAny_While (codeAny_whileLoop (λn s'=>∃σ' H',Inv X pins σ' H' s'/\W n σ' H') ?_ m0 #[σ,H,I,w0]);rintro n s1 ⟨σ1,H1,I1,w1⟩;refine Hk hp (thn (hc pins s1 σ1 H1 _ I1 (turn n σ1 H1 w1)) λb s2 ⟨H2,I2,q2⟩=>?_);cases b with
 |true=>
  obtain⟨N,hN,q2⟩:=q2;rw[if_pos rfl];refine Hk hp (thn (hb pins s2 σ1 H2 _ I2 q2) λf s3 q3=>?_);cases f with
  |next=>
   obtain⟨σ3,H3,I3,n3⟩:=q3;obtain⟨m',hm,w3⟩:=hN σ3 H3 n3;exact#[m',hm,σ3,H3,I3,w3]
  |cont=>
   obtain⟨σ3,H3,I3,n3⟩:=q3;obtain⟨m',hm,w3⟩:=hN σ3 H3 n3;exact#[m',hm,σ3,H3,I3,w3]
  |brk=>exact q3
  |ret v=>exact q3
 |false=>
  rw[if_neg An];exact Lo #[σ1,H2,I2,q2]
structure It where
 go:Nat->Hp->Prop
 yld:Nat->Hp->V->Hp->Prop
 stop:Nat->Hp->Prop
def aDh(X:Cx)(pins:#v[8])(H:Hp)(b:Addr):Prop:=
 H b=none/\b≠X.env.locals/\b∉X.fs/\(b∈X.ex∨X.s₀.heap.objs.size<=b)/\(∀x c,X.env.cells.lookup x=some c->c≠b)/\∀p∈X.pn++pins,p.1≠b
def Inv.fpOk{X:Cx}{pins:#v[8]}{σ:St}{H H':Hp}{s:Shared}(I:#v[4])(hb:#v[0]<=b)(hn:H' b=none):aDh X pins H' b:=by
 refine#[hn,Fc (Be I.lt hb),I.nofs hb,.inr (Ci I.sz hb),λx c e z=>?_,λp hp z=>?_]
 ·obtain⟨v,q⟩:=I.cell x c e;exact absurd (Be q.lt (by rw[z];exact hb)) (Dp _)
 ·exact absurd (Be (Ar (I.pin p hp).1) (by rw[z];exact hb)) (Dp _)
structure Turn(P:Program)(w:World)(K:Ad)(tg:Expr)(J:It)(fp:List Addr)(it:Addr)(tn:Nat->Heap->Prop):Prop where
 mem:it∈fp
 obj:∀i h,tn i h->∀b∈fp,∃o,h.get? b=some o/\∀v,o.data≠.cell v
 keep:∀i h h',tn i h->(∀b∈fp,∀o,h.get? b=some o->h'.get? b=some o)->tn i h'
 item:∀(X:Cx),X.prog=P->X.w=w->X.K=K->X.calm=true->∀(i:Nat)(pins:#v[8])(s:Shared)(σ:St)(H:Hp)(E:#v[7]),#v[4]->(∀b∈fp,aDh X pins H b)->tn i s.heap->J.go i H->
  wpAny (model P w) X.A (pyNext (.ref it)) (λr s1=>∃u,r=some u/\
   wpAny (model P w) X.A (letOwnedTupleGo tg (.ref it) u) (λ_ s2=>∃x H',Inv X pins σ H' s2/\RelV x u/\J.yld i H x H'/\tn (i+1) s2.heap/\∀b∈fp,H' b=none) E s1) E s
 done:∀(X:Cx),X.prog=P->X.w=w->X.K=K->X.calm=true->∀(i:Nat)(pins:#v[8])(s:Shared)(σ:St)(H:Hp)(E:#v[7]),#v[4]->(∀b∈fp,aDh X pins H b)->tn i s.heap->J.stop i H->
  wpAny (model P w) X.A (pyNext (.ref it)) (λr s1=>r=none/\Inv X pins σ H s1) E s
 self:∀(A:Around)(i:Nat)(s:Shared)(Q:#v[7])(E:#v[7]),tn i s.heap->Q (.ref it) s->wpAny (model P w) A (pyIter (.ref it)) Q E s
abbrev TI:=St->Hp->(It->Hp->Prop)->Prop
def PIE(X:Cx)(pins:#v[8])(σ:St)(tg:Expr)(R:It->Hp->Prop)(itv:Value)(s2:Shared):Prop:=
 ∃(it:Addr)(fp:List Addr)(tn:Nat->Heap->Prop)(J:It)(H':Hp),itv=.ref it/\Inv X pins σ H' s2/\Turn X.prog X.w X.K tg J fp it tn/\tn 0 s2.heap/\(∀b∈fp,aDh X pins H' b)/\R J H'
def PI(X:Cx)(tg iter:Expr)(wi:TI):Prop:=
 ∀(pins:#v[8])(s:Shared)(σ:St)(H:Hp)(R:It->Hp->Prop),#v[4]->wi σ H R->
  #v[6] (eval iter X.env) (λv s1=>#v[6] (pyIter v) (PIE X pins σ tg R) X.xe s1) X.xe s
def aI5 {s : Shared} {o : Obj} {Q : Unit → Shared → Prop} (ho : s.heap.get? it = some o) (hc : o.cls = .type n) (hd : o.data = .fields vs)
    (hn : ["enumerate", "zip", "dict_itemiterator", "dict_reverseitemiterator", "odict_iterator", "itertools.zip_longest", "itertools.pairwise"].contains n = false) (hQ : Q () s) : wpAny M A (letOwnedTupleGo tg (.ref it) u) Q E s := by
  unfold letOwnedTupleGo
  cases tg <;> first
    | exact Ac hQ
    | (cases u <;> first
        | exact Ac hQ
        | (refine Aa (wpAny_load ho ?_)
           rw [hc, hd]
           show wpAny M A (if (["enumerate", "zip", "dict_itemiterator", "dict_reverseitemiterator", "odict_iterator", "itertools.zip_longest", "itertools.pairwise"].contains n && vs[0]? == some (rawInt _)) = true then _ else _) Q E s
           rw [if_neg (by intro h; rw [hn, Jo] at h; cases h)]
           exact Ac hQ))
def Itl(K:Ad)(a:Addr):It:=
 #[λi H=>∃xs x,SqL K H a xs/\xs[i]? =some x,λi H x H'=>H'=H/\∀xs,SqL K H a xs->xs[i]? =some x,λi H=>∃xs,SqL K H a xs/\xs.length<=i]
def Itt(K:Ad)(a:Addr):It:=
 #[λi H=>∃xs x,SqT K H a xs/\xs[i]? =some x,λi H x H'=>H'=H/\∀xs,SqT K H a xs->xs[i]? =some x,λi H=>∃xs,SqT K H a xs/\xs.length<=i]
def Itr(lo:Int)(n:Nat):It:=#[λi _=>i<n,λi H x H'=>H'=H/\x=.int (lo+i),λi _=>n<=i]
def aK3{P:Program}{w:World}{K:Ad}(a it:Addr):Turn P w K tg (Itl K a) [it] it (λi h=>h.IsListIter it a i) where
 mem:=by simp
 obj:=λi h st b hb=>by
  have e:b=it:=by simpa using hb
  subst e;obtain⟨o,e,c,d⟩:=st;exact#[o,e,λv z=>by rw[d]at z;cases z]
 keep:=λi h h' st k=>st.at λo e=>k it (by simp) o e
 item:=by
  intro X hP hw hK hc i pins s σ H E I hf st hg;subst hP hw hK;obtain⟨xs,x,hq,hx⟩:=hg;obtain⟨its,rv,p,hz⟩:=I.list hq;obtain⟨u,hu,ru⟩:=rv.get hx;obtain⟨f0,f1,f2,f3,f4,f5⟩:=hf it (by simp);refine wpAny_pyNext_list_item st p.isList (x:=u) (by simpa using hu) λh' st' sb=>?_;have I1:Inv X pins σ H {s with heap:=h'}:=I.turned (t':=s.toks) (λb o hb e=>(sb.2 b hb).trans e) f0 f1 f3 f4 f5;obtain⟨o,e,c,d⟩:=id st';exact#[u,rfl,aI5 (s:={s with heap:=h'}) e c d ⋯ #[x,H,I1,ru,#[rfl,λys hy=>by rw[I.list_inj hy hq];exact hx],st',λb hb=>(hf b hb).1]]
 done:=by
  intro X hP hw hK hc i pins s σ H E I hf st hg;subst hP hw hK;obtain⟨xs,hq,hx⟩:=hg;obtain⟨its,rv,p,hz⟩:=I.list hq;obtain⟨f0,f1,f2,f3,f4,f5⟩:=hf it (by simp);have hl:=rv.length;exact wpAny_pyNext_list_end #v[58] st p.isList (by simp;lia) λh' eb=>#[rfl,I.turned (t':=s.toks) (λb o hb e=>eb b o hb e) f0 f1 f3 f4 f5]
 self:=λ_ _ _ _ _ st h=>wpAny_pyIter_listiter st h
def aIv{P:Program}{w:World}{K:Ad}(a it:Addr):Turn P w K tg (Itt K a) [it] it (λi h=>h.IsTupleIter it a i) where
 mem:=by simp
 obj:=λi h st b hb=>by
  have e:b=it:=by simpa using hb
  subst e;obtain⟨o,e,c,d⟩:=st;exact#[o,e,λv z=>by rw[d]at z;cases z]
 keep:=λi h h' st k=>st.at λo e=>k it (by simp) o e
 item:=by
  intro X hP hw hK hc i pins s σ H E I hf st hg;subst hP hw hK;obtain⟨xs,x,hq,hx⟩:=hg;obtain⟨its,rv,p,hz⟩:=I.tuple hq;obtain⟨u,hu,ru⟩:=rv.get hx;obtain⟨f0,f1,f2,f3,f4,f5⟩:=hf it (by simp);refine wpAny_pyNext_tuple_item st (show s.heap.IsTuple a its.toArray from p) (x:=u) (by simpa using hu) λh' st' sb=>?_;have I1:Inv X pins σ H {s with heap:=h'}:=I.turned (t':=s.toks) (λb o hb e=>(sb.2 b hb).trans e) f0 f1 f3 f4 f5;obtain⟨o,e,c,d⟩:=id st';exact#[u,rfl,aI5 (s:={s with heap:=h'}) e c d ⋯ #[x,H,I1,ru,#[rfl,λys hy=>by rw[I.tuple_inj hy hq];exact hx],st',λb hb=>(hf b hb).1]]
 done:=by
  intro X hP hw hK hc i pins s σ H E I hf st hg;subst hP hw hK;obtain⟨xs,hq,hx⟩:=hg;obtain⟨its,rv,p,hz⟩:=I.tuple hq;obtain⟨f0,f1,f2,f3,f4,f5⟩:=hf it (by simp);have hl:=rv.length;exact wpAny_pyNext_tuple_end #v[58] st (show s.heap.IsTuple a its.toArray from p) (by simp;lia) λh' eb=>#[rfl,I.turned (t':=s.toks) (λb o hb e=>eb b o hb e) f0 f1 f3 f4 f5]
 self:=λ_ _ _ _ _ st h=>wpAny_pyIter_tupleiter st h
def aH2{P:Program}{w:World}{K:Ad}(it:Addr)(lo:Int)(n:Nat):Turn P w K tg (Itr lo n) [it] it (λi h=>IsRangeIter h it (lo+(i:Nat)*1) ((n:Int)-(i:Nat)) 1) where
 mem:=by simp
 obj:=λi h st b hb=>by
  have e:b=it:=by simpa using hb
  subst e;exact⟨_,st,λv z=>by
   have z':Ra _=Nv v:=z;cases z'⟩
 keep:=λi h h' st k=>k it (by simp) _ st
 item:=by
  intro X hP hw hK hc i pins s σ H E I hf st hg;subst hP hw hK;obtain⟨f0,f1,f2,f3,f4,f5⟩:=hf it (by simp);have W:=Walks.range (prog:=X.prog) (w:=X.w) #v[58] it lo 1 n;refine W.item i s _ _ hg st λv h' tk hv st' kk=>?_;obtain⟨t,rfl⟩:=hv;have I1:Inv X pins σ H {s with heap:=h',toks:=tk}:=I.turned (λb o hb e=>kk b o (by simpa using hb) e) f0 f1 f3 f4 f5;refine#[_,rfl,aI5 (s:={s with heap:=h',toks:=tk}) (n:="range_iterator") st' rfl rfl ⋯ #[.int (lo+i),H,I1,#[t,?_],#[rfl,rfl],st',λb hb=>(hf b hb).1]];rw[Int.mul_one]
 done:=by
  intro X hP hw hK hc i pins s σ H E I hf st hg;subst hP hw hK;obtain⟨f0,f1,f2,f3,f4,f5⟩:=hf it (by simp);exact wpAny_pyNext_range_end #v[58] st (by have:n<=i:=hg;lia) λh' eb=>#[rfl,I.turned (t':=s.toks) (λb o hb e=>eb b o hb e) f0 f1 f3 f4 f5]
 self:=λ_ _ _ _ _ st h=>wpAny_pyIter_rangeiter st h
variable {tg:Expr}
inductive aTr(K:Ad)(x:V)(H1:Hp)(R:It->Hp->Prop):Prop
 |mk (a:_) (q0_:x=.ref a) (q1_:(∃xs,SqL K H1 a xs)) (q2_:R (Itl K a) H1):aTr K x H1 R
def bBv(K:Ad)(x:V)(H1:Hp)(R:It->Hp->Prop):Prop:=aTr K x H1 R
def bAn(K:Ad)(tl:TE):TI:=λσ H R=>tl σ H λx H1=>bBv K x H1 R
def bBd(K:Ad)(tl:TE):TI:=λσ H R=>tl σ H λx H1=>∃a,x=.ref a/\(∃xs,SqT K H1 a xs)/\R (Itt K a) H1
def aSh{l:Expr}{tl:TE}(hl:PE X l tl):PI X tg l (bAn X.K tl):=by
 intro pins s σ H R I h;refine thn (hl pins s σ H _ I h) λv s1 ⟨x,H1,I1,r1,q1⟩=>?_;obtain⟨a,e,⟨xs,hq⟩,q⟩:=q1;subst e;cases r1;obtain⟨its,rv,p,hz⟩:=I1.list hq;refine Ir p.isList ?_;refine#[s1.heap.objs.size,[s1.heap.objs.size],_,_,H1,rfl,I1.kept (t':=s1.toks) λb o e=>Ae _ e,aK3 a _,#[_,Ap _ rfl,rfl,rfl],λb hb=>?_,q];have e:b=s1.heap.objs.size:=by simpa using hb
 subst e;exact I1.fpOk (Aj _) (I1.hok.fresh (Aj _))
def aW7{l:Expr}{tl:TE}(hl:PE X l tl):PI X tg l (bBd X.K tl):=by
 intro pins s σ H R I h;refine thn (hl pins s σ H _ I h) λv s1 ⟨x,H1,I1,r1,q1⟩=>?_;obtain⟨a,e,⟨xs,hq⟩,q⟩:=q1;subst e;cases r1;obtain⟨its,rv,p,hz⟩:=I1.tuple hq;refine Ug (show s1.heap.IsTuple a its.toArray from p) ?_;refine#[s1.heap.objs.size,[s1.heap.objs.size],_,_,H1,rfl,I1.kept (t':=s1.toks) λb o e=>Ae _ e,aIv a _,#[_,Ap _ rfl,rfl,rfl],λb hb=>?_,q];have e:b=s1.heap.objs.size:=by simpa using hb
 subst e;exact I1.fpOk (Aj _) (I1.hok.fresh (Aj _))
def aFh{pins:#v[8]}{σ:St}{H:Hp}{s:Shared}{R:It->Hp->Prop}{lo hi:Int}{t u v:Tok}{tk:Nat}(I:#v[4])(h1: -(2 ^ 62)<=lo)(h2:lo<2 ^ 62)(h3: -(2 ^ 62)<=hi)(h4:hi<2 ^ 62)
  (q:R (Itr lo (hi-lo).toNat) H):#v[6] (pyIter #v[32]) (PIE X pins σ tg R) E {s with heap:=s.heap.push {cls:=.type "range",data:=.fields (List.toArray [.int lo t,.int hi u,.int 1 v])},toks:=tk}:=by
 refine wpAny_pyIter_range (IsRange.new ..) (small_one h1 h2 h3 h4) ?_;have I1:Inv X pins σ H {s with heap:=s.heap.push {cls:=.type "range",data:=.fields (List.toArray [.int lo t,.int hi u,.int 1 v])},toks:=tk}:=I.kept λb o e=>Ae _ e;refine⟨#v[18].objs.size,[#v[18].objs.size],_,_,H,rfl,
  I1.kept (t':=tk) λb o e=>Ae _ e,aH2 _ lo (hi-lo).toNat,?_,λb hb=>?_,q⟩
 ·have e1:lo+((0:Nat):Int)*1=lo:=by simp
  have e2:(((hi-lo).toNat:Nat):Int)-((0:Nat):Int)=Mg lo hi 1:=by rw[rangeSize_one];split<;>lia
  show IsRangeIter _ _ (lo+((0:Nat):Int)*1) ((((hi-lo).toNat:Nat):Int)-((0:Nat):Int)) 1;rw[e1,e2];exact Ap _ rfl
 ·have e:b=#v[18].objs.size:=by simpa using hb
  subst e;exact I1.fpOk (Aj _) (I1.hok.fresh (Aj _))
inductive aTm(vs:List V)(H1:Hp)(R:It->Hp->Prop):Prop
 |mk (j:Int) (q0_:vs=[.int j]) (q1_: -(2 ^ 62)<=j) (q2_:j<2 ^ 62) (q3_:R (Itr 0 j.toNat) H1):aTm vs H1 R
def bB2(vs:List V)(H1:Hp)(R:It->Hp->Prop):Prop:=aTm vs H1 R
def bAp(ta:TA):TI:=λσ H R=>ta σ H λvs H1=>bB2 vs H1 R
def aX6(ta:TA):TI:=λσ H R=>ta σ H λvs H1=>∃i j:Int,vs=[.int i,.int j]/\(-(2 ^ 62)<=i/\i<2 ^ 62/\ -(2 ^ 62)<=j/\j<2 ^ 62)/\R (Itr i (j-i).toNat) H1
def aK7{a:Expr}{ta:TA}{p pos:Pos}(hg:Gl X "range")(hm:X.mg "range"=none)(ha:PA X [a] ta)(hs:#v[72]:=by rfl):PI X tg (.Call (.Name "range" p) [a] [] pos) (bAp ta):=by
 intro pins s σ H R I h;refine Call_ (oU I hg hm Vi (Dk (thn #v[P] λus s1 ⟨vs,H1,I1,r1,q1⟩=>?_) hs rfl));obtain⟨j,e,q1,q2,q⟩:=q1;subst e;cases r1 with
 |cons r rr=>
  cases rr;obtain⟨t,rfl⟩:=r;exact call_range_1 (aFh I1 ∅ ∅ q1 q2 (by simpa using q))
def aLy{a b:Expr}{ta:TA}{p pos:Pos}(hg:Gl X "range")(hm:X.mg "range"=none)(ha:PA X [a,b] ta)(hs:#v[h]:=by rfl)(hs2:#v[I]:=by rfl):
  PI X tg (.Call (.Name "range" p) [a,b] [] pos) (aX6 ta):=by
 intro pins s σ H R I h;refine Call_ (oU I hg hm Vi (Dk (thn #v[P] λus s1 ⟨vs,H1,I1,r1,q1⟩=>?_) (by rw[hs,hs2]) (by rw[hs2];rfl)));obtain⟨i,j,e,⟨q1,q2,q3,q4⟩,q⟩:=q1;subst e;cases r1 with
 |cons r rr=>
  cases rr with
  |cons r' rr=>
   cases rr;obtain⟨t,rfl⟩:=r;obtain⟨t',rfl⟩:=r';exact call_range_2 (aFh I1 q1 q2 q3 q4 q)
def bA4(wi:TI)(g:TG)(tb:TS):TS:=λD σ H=>wi σ H λJ H1=>∃W:Nat->Nat->St->Hp->Prop,(∃m,W 0 m σ H1)/\∀i m σ H,W i m σ H->
 (J.stop i H/\D.nx σ H)∨(J.go i H/\∃N:St->Hp->Prop,(∀σ' H',N σ' H'->∃m',m'<m/\W (i+1) m' σ' H')/\∀x H',J.yld i H x H'->g x σ H' λσ2 H2=>tb {D with nx:=N,ct:=N,bk:=D.nx} σ2 H2)
def aDk(fp:List Addr)(h:Heap):#v[8]:=fp.filterMap λb=>(h.get? b).map λo=>(b,o)
def jX{h:Heap}{o:Obj}(hb:b∈fp)(e:h.get? b=some o):(b,o)∈aDk fp h:=List.mem_filterMap.mpr #[b,hb,by rw[e];rfl]
def aKp{h:Heap}(hp:p∈aDk fp h):p.1∈fp/\h.get? p.1=some p.2:=by
 obtain⟨b,hb,e⟩:=List.mem_filterMap.mp hp;cases q:h.get? b with
 |none=>rw[q]at e;cases e
 |some o=>
  rw[q]at e;have e':(b,o)=p:=Bi e;subst e';exact#[hb,q]
def Inv.pinned{pins:#v[8]}{σ:St}{H:Hp}{s:Shared}(I:#v[4])(hf:∀b∈fp,aDh X pins H b)(ho:∀b∈fp,∃o,s.heap.get? b=some o/\∀v,o.data≠.cell v):Inv X (pins++aDk fp s.heap) σ H s:=
 I.pins_of λp hp=>#v[74].elim (λz=>I.pin p (Ax _ z)) λz=>by
  obtain⟨hb,e⟩:=aKp z;obtain⟨f0,f1,f2,_⟩:=hf p.1 hb;obtain⟨o,e',d⟩:=ho p.1 hb;rw[e]at e';cases e';exact#[e,f0,f1,f2,d]
def Inv.unpinned{pins pl:#v[8]}{σ:St}{H:Hp}{s:Shared}(I:Inv X (pins++pl) σ H s):#v[4]:=I.pins_of λp hp=>I.pin p (Ax _ (Bf _ hp))
def aWw{iter:Expr}{wi:TI}{g:TG}{tb:TS}{pos:Pos}(hp:PassesOwn #v[p] X.A X.env X.xe)(hc:X.calm=true)(hi:#v[62])(hg:PG X tg g)(hb:PSs X body tb)
  (hs:FS X iter:=by intro _;rfl):PS X (.For tg iter body [] pos) (bA4 wi g tb):=by
 intro pins s σ H D I h;refine wpAny_For (thn (hi pins s σ H _ I h) λv s1 h1=>thn h1 λitv s2 h2=>?_) hs;obtain⟨it,fp,tn,J,H2,e,I2,T,st2,f2,W,⟨m0,w0⟩,turn⟩:=h2;subst e;have stat:∀{H':Hp},(∀b∈fp,H' b=none)->∀b∈fp,aDh X pins H' b:=λhn b hb=>#[hn b hb,(f2 b hb).2];refine codeAny_forLoop_any (λn s'=>∃i σ' H',Inv X pins σ' H' s'/\tn i s'.heap/\(∀b∈fp,H' b=none)/\W i n σ' H') ?_ m0 #[0,σ,H2,I2,st2,λb hb=>(f2 b hb).1,w0];rintro n s3 ⟨i,σ3,H3,I3,st3,fr3,w3⟩;rcases turn i n σ3 H3 w3 with ⟨stop,qn⟩|⟨go,N,hN,step⟩
 ·refine Hk hp (thn (T.done X rfl rfl rfl hc i pins s3 σ3 H3 X.xe I3 (stat fr3) st3 stop) λr s4 ⟨hr,I4⟩=>?_);subst hr;exact Lo #[σ3,H3,I4,qn]
 ·refine Hk hp (thn (T.item X rfl rfl rfl hc i pins s3 σ3 H3 X.xe I3 (stat fr3) st3 go) λr s4 ⟨u,hr,h4⟩=>?_);subst hr;refine Hk hp (thn h4 λ_ s5 ⟨x,H5,I5,r5,y5,st5,fr5⟩=>?_);have I5':=I5.pinned (stat fr5) (T.obj _ _ st5);refine Hk hp (thn (hg _ s5 σ3 H5 x u _ I5' r5 (step x H5 y5)) λ_ s6 ⟨σ6,H6,I6,q6⟩=>?_);refine Hk hp (thn (hb _ s6 σ6 H6 _ I6 q6) λf s7 q7=>?_);have again:∀{σ7:St}{H7:Hp},Inv X (pins++aDk fp s5.heap) σ7 H7 s7->N σ7 H7->∃m,m<n/\∃i σ' H',Inv X pins σ' H' s7/\tn i s7.heap/\(∀b∈fp,H' b=none)/\W i m σ' H':=λ{σ7 H7} I7 n7=>by
   obtain⟨m',hm,w7⟩:=hN σ7 H7 n7;refine#[m',hm,i+1,σ7,H7,I7.unpinned,T.keep _ _ _ st5 λb hb o e=>(I7.pin (b,o) (Ax _ (Ax _ (jX hb e)))).1,λb hb=>?_,w7];obtain⟨o,e,d⟩:=T.obj _ _ st5 b hb;exact(I7.pin (b,o) (Ax _ (Ax _ (jX hb e)))).2.1
  cases f with
  |next=>obtain⟨σ7,H7,I7,n7⟩:=q7;exact again I7 n7
  |cont=>obtain⟨σ7,H7,I7,n7⟩:=q7;exact again I7 n7
  |brk=>obtain⟨σ7,H7,I7,q7⟩:=q7;exact#[σ7,H7,I7.unpinned,q7]
  |ret v=>obtain⟨x7,σ7,H7,I7,r7,q7⟩:=q7;exact#[x7,σ7,H7,I7.unpinned,r7,q7]
abbrev R2:=V->V->Hp->VK->Prop
def OpR(X:Cx)(f:Value->Value->Sem Value)(r:R2):Prop:=
 ∀(pins:#v[8])(s:Shared)(σ:St)(H:Hp)(x y:V)(v u:Value)(Q:VK),#v[4]->RelV x v->RelV y u->r x y H Q->
  #v[6] (f v u) #v[21] X.xe s
def UnR(X:Cx)(f:Value->Sem Value)(r:V->Hp->VK->Prop):Prop:=
 ∀(pins:#v[8])(s:Shared)(σ:St)(H:Hp)(x:V)(v:Value)(Q:VK),#v[4]->RelV x v->r x H Q->
  #v[6] (f v) #v[21] X.xe s
def dO(X:Cx)(f:Value)(r:List V->Hp->VK->Prop):Prop:=
 ∀(pins:#v[8])(s:Shared)(σ:St)(H:Hp)(xs:List V)(us:List Value)(Q:VK),#v[4]->Vals xs us->r xs H Q->
  #v[6] (call f us) #v[21] X.xe s
def tOp(r:R2)(ta tb:TE):TE:=λσ H Q=>ta σ H λx H1=>tb σ H1 λy H2=>r x y H2 Q
def tUn(r:V->Hp->VK->Prop)(ta:TE):TE:=λσ H Q=>ta σ H λx H1=>r x H1 Q
inductive IrI(C:Int->Int->Prop)(g:Int->Int->V)(x:V)(y:V)(H:Hp)(Q:VK):Prop
 |mk (i j:_) (q0_:x=.int i) (q1_:y=.int j) (q2_:C i j) (q3_:Q (g i j) H):IrI C g x y H Q
def rI(C:Int->Int->Prop)(g:Int->Int->V):R2:=λx y H Q=>IrI C g x y H Q
def rI0(g:Int->Int->V):R2:=λx y H Q=>∃i j,x=.int i/\y=.int j/\Q (g i j) H
inductive IrU(g:Int->V)(x:V)(H:Hp)(Q:VK):Prop
 |mk (i:_) (q0_:x=.int i) (q1_:Q (g i) H):IrU g x H Q
def rU(g:Int->V):V->Hp->VK->Prop:=λx H Q=>IrU g x H Q
section
variable {X:Cx}{a b c:Expr}{ta tb tc:TE}{pos:Pos}
def aWc(ha:PE X a ta)(hb:PE X b tb){pins:#v[8]}{s:Shared}{σ:St}{H:Hp}{R:V->V->Hp->Prop}(I:#v[4])
  (h:ta σ H λx H1=>tb σ H1 λy H2=>R x y H2) {f:Value->Value->Sem Value}
  (hf:∀v u s2 x y H2,Inv X pins σ H2 s2->RelV x v->RelV y u->R x y H2->#v[6] (f v u) Q X.xe s2):
  #v[6] (eval a X.env) (λv s₁=>#v[6] (eval b X.env) (λu s₂=>#v[6] (f v u) Q X.xe s₂) X.xe s₁) X.xe s:=by
 refine thn #v[r] λv s1 ⟨x,H1,I1,r1,q1⟩=>?_;refine thn (hb pins s1 σ H1 _ I1 q1) λu s2 ⟨y,H2,I2,r2,q2⟩=>?_;exact hf v u s2 x y H2 I2 r1 r2 q2
def jU{op:Operator}{r:R2}(ho:OpR X (binaryOp op) r)(ha:PE X a ta)(hb:PE X b tb):PE X (.BinOp a op b pos) (tOp r ta tb):=by
 intro pins s σ H Q I h;exact wpAny_BinOp (aWc ha hb I h λv u s2 x y H2 I2 rx ry q=>ho pins s2 σ H2 x y v u Q I2 rx ry q)
def aZ4{op:UnaryOp}{r:V->Hp->VK->Prop}(ho:UnR X (unaryOp op) r)(ha:PE X a ta):PE X (.UnaryOp op a pos) (tUn r ta):=by
 intro pins s σ H Q I h;exact UnaryOp_ (thn #v[r] λv s1 ⟨x,H1,I1,r1,q1⟩=>ho pins s1 σ H1 x v Q I1 r1 q1)
def opI{f:Value->Value->Sem Value}{C:Int->Int->Prop}
  (rule:∀(i j:Int)(t u:Tok)(s:Shared)(Q:#v[7])(E:#v[7]),C i j->Q (.int (g i j) s.toks) {s with toks:=s.toks+1}->#v[6] (f (.int i t) (.int j u)) Q E s):
  OpR X f (rI C λi j=> .int (g i j)):=by
 intro pins s σ H x y v u Q I rx ry h;obtain⟨i,j,rfl,rfl,hc,q⟩:=h;obtain⟨t,rfl⟩:=rx;obtain⟨t',rfl⟩:=ry;exact rule i j t t' s _ _ hc #[.int (g i j),H,I.tok _,#[_,rfl],q]
def aYt{f:Value->Value->Sem Value}
  (rule:∀(i j:Int)(t u:Tok)(s:Shared)(Q:#v[7])(E:#v[7]),Q (.int (g i j) s.toks) {s with toks:=s.toks+1}->#v[6] (f (.int i t) (.int j u)) Q E s):
  OpR X f (rI0 λi j=> .int (g i j)):=by
 intro pins s σ H x y v u Q I rx ry h;obtain⟨i,j,rfl,rfl,q⟩:=h;obtain⟨t,rfl⟩:=rx;obtain⟨t',rfl⟩:=ry;exact rule i j t t' s _ _ #[.int (g i j),H,I.tok _,#[_,rfl],q]
def aSy{f:Value->Value->Sem Value}{g:Int->Int->Bool}
  (rule:∀(i j:Int)(t u:Tok)(s:Shared)(Q:#v[7])(E:#v[7]),Q (.bool (g i j)) s->#v[6] (f (.int i t) (.int j u)) Q E s):
  OpR X f (rI0 λi j=> .bl (g i j)):=by
 intro pins s σ H x y v u Q I rx ry h;obtain⟨i,j,rfl,rfl,q⟩:=h;obtain⟨t,rfl⟩:=rx;obtain⟨t',rfl⟩:=ry;exact rule i j t t' s _ _ #[.bl (g i j),H,I,rfl,q]
def bA9(i j:Int):Prop:=0<=j/\j<=1000000/\i.natAbs<2 ^ 64
def aXz(i j:Int):Prop:=(-(2 ^ 64)<i/\i<2 ^ 64)∨(-(2 ^ 64)<j/\j<2 ^ 64)
def aXz.ok{i j:Int}(h:aXz i j):IntMulOk i j:=by
 rcases h with ⟨h1,h2⟩|⟨h1,h2⟩
 ·exact .of_left (intBits_le_64 h1 h2)
 ·exact .of_right (intBits_le_64 h1 h2)
def xO:OpR X (binaryOp .Add) (rI0 λi j=> .int (i+j)):=aYt λ_ _ _ _ _ _ _ q=>add_int q
def rJ:OpR X (binaryOp .Sub) (rI0 λi j=> .int (i-j)):=aYt λ_ _ _ _ _ _ _ q=>sub_int q
def oY:OpR X (binaryOp .Mult) (rI aXz λi j=> .int (i*j)):=opI λ_ _ _ _ _ _ _ hc q=>mul_int q hc.ok
def wN:OpR X (binaryOp .Mod) (rI (λ_ j=>0<j) λi j=> .int (i % j)):=opI λi j _ _ _ _ _ hc q=>by
 have h1:(0:Int)<j:=hc;exact mod_int' ∅ (by rw[Int.fmod_eq_emod_of_nonneg i ∅];exact q)
def aVb:OpR X (binaryOp .Pow) (rI bA9 λi j=> .int (i ^ j.toNat)):=opI λ_ _ _ _ _ _ _ hc q=>pow_int_small hc.1 hc.2.1 hc.2.2 q
def unI{f:Value->Sem Value}{g:Int->Int}
  (rule:∀(i:Int)(t:Tok)(s:Shared)(Q:#v[7])(E:#v[7]),Q (.int (g i) s.toks) {s with toks:=s.toks+1}->#v[6] (f (.int i t)) Q E s):
  UnR X f (rU λi=> .int (g i)):=by
 intro pins s σ H x v Q I rx h;obtain⟨i,rfl,q⟩:=h;obtain⟨t,rfl⟩:=rx;exact rule i t s _ _ #[.int (g i),H,I.tok _,#[_,rfl],q]
def aWq:UnR X (unaryOp .USub) (rU λi=> .int (-i)):=unI λ_ _ _ _ _ q=>neg_int q
end
section
variable {X:Cx}{a b c:Expr}{ta tb tc:TE}{pos:Pos}
def aGa:OpR X (compareOp .Lt) (rI0 λi j=> .bl (decide (i<j))):=aSy λ_ _ _ _ _ _ _ q=>lt_int q
def aAc:OpR X (compareOp .LtE) (rI0 λi j=> .bl (decide (i<=j))):=aSy λ_ _ _ _ _ _ _ q=>le_int q
def lF:OpR X (compareOp .Gt) (rI0 λi j=> .bl (decide (j<i))):=aSy λ_ _ _ _ _ _ _ q=>gt_int q
def aYs:OpR X (compareOp .GtE) (rI0 λi j=> .bl (decide (j<=i))):=aSy λ_ _ _ _ _ _ _ q=>ge_int q
def OpR.or(h:OpR X f r)(h':OpR X f r'):OpR X f (λx y H Q=>r x y H Q∨r' x y H Q):=by
 intro pins s σ H x y v u Q I rx ry q;rcases q with q|q
 ·exact h pins s σ H x y v u Q I rx ry q
 ·exact h' pins s σ H x y v u Q I rx ry q
def aEd(b:Expr)(h:op≠.In:=by decide)(h2:op≠.NotIn:=by decide):behindInMarks op b=false:=by
 have e1:(op==CmpOp.In)=false:=by cases op<;>first|rfl|exact absurd rfl h
 have e2:(op==Vv)=false:=by cases op<;>first|rfl|exact absurd rfl h2
 cases b<;>simp[behindInMarks,e1,e2]
def aRp{op:CmpOp}{r:R2}(ho:#v[54])(ha:PE X a ta)(hb:PE X b tb)(hm:behindInMarks op b=false):PE X (.Compare a [op] [b] pos) (tOp r ta tb):=by
 intro pins s σ H Q I h;exact wpAny_Compare1 (aWc ha hb I h λv u s2 x y H2 I2 rx ry q=>ho pins s2 σ H2 x y v u Q I2 rx ry q) hm
def aN4(t:TE):TT:=λσ H Q=>t σ H λx H1=>rBl x H1 Q
def aCy{op:CmpOp}{r:R2}(ho:#v[54])(ha:PE X a ta)(hb:PE X b tb)(hm:behindInMarks op b=false):PT X (.Compare a [op] [b] pos) (aN4 (tOp r ta tb)):=by
 intro pins s σ H Q I h;refine Se (thn #v[r] λv s1 ⟨x,H1,I1,r1,q1⟩=>thn (hb pins s1 σ H1 _ I1 q1) λu s2 ⟨y,H2,I2,r2,q2⟩=>
  thn (ho pins s2 σ H2 x y v u _ I2 r1 r2 q2) λc s3 ⟨z,H3,I3,r3,k,e,q3⟩=>?_) hm
 subst e;cases r3;exact Dl #[H3,I3,q3]
def aH7(r r':R2)(ta tb tc:TE):TE:=λσ H Q=>ta σ H λx H1=>tb σ H1 λy H2=>r x y H2 λz H3=>∃k,z=.bl k/\
 (if k=true then tc σ H3 λw' H4=>r' y w' H4 Q else Q (.bl false) H3)
def aOr{op op':CmpOp}{r r':R2}(ho:#v[54])(ho':OpR X (compareOp op') r')(ha:PE X a ta)(hb:PE X b tb)(hc:PE X c tc)
  (hm:lastMarks [op,op'] [b,c]=false:=by with_unfolding_all rfl):PE X (.Compare a [op,op'] [b,c] pos) (aH7 r r' ta tb tc):=by
 intro pins s σ H Q I h;refine Compare_chain (thn #v[r] λv s1 ⟨x,H1,I1,r1,q1⟩=>chain_link (thn (hb pins s1 σ H1 _ I1 q1) λu s2 ⟨y,H2,I2,r2,q2⟩=>
  thn (ho pins s2 σ H2 x y v u _ I2 r1 r2 q2) λd s3 ⟨z,H3,I3,r3,k,e,q3⟩=>?_)) hm
 subst e;cases r3;refine Dl ?_;cases k with
 |false=>exact ite_ff #[.bl false,H3,I3,rfl,q3]
 |true=>exact ite_tt (chain_last (thn (hc pins s3 σ H3 _ I3 q3) λw' s4 ⟨z',H4,I4,r4,q4⟩=>ho' pins s4 σ H4 y z' u w' Q I4 r2 r4 q4))
def aN7{op op':CmpOp}{r r':R2}(ho:#v[54])(ho':OpR X (compareOp op') r')(ha:PE X a ta)(hb:PE X b tb)(hc:PE X c tc)
  (hm:lastMarks [op,op'] [b,c]=false:=by with_unfolding_all rfl):PT X (.Compare a [op,op'] [b,c] pos) (aN4 (aH7 r r' ta tb tc)):=by
 intro pins s σ H Q I h;refine isTrue_chain (thn #v[r] λv s1 ⟨x,H1,I1,r1,q1⟩=>test_link (thn (hb pins s1 σ H1 _ I1 q1) λu s2 ⟨y,H2,I2,r2,q2⟩=>
  thn (ho pins s2 σ H2 x y v u _ I2 r1 r2 q2) λd s3 ⟨z,H3,I3,r3,k,e,q3⟩=>?_)) hm
 subst e;cases r3;refine Dl ?_;cases k with
 |false=>
  obtain⟨k',e',q'⟩:=q3;cases e';exact ite_ff #[H3,I3,q']
 |true=>
  refine ite_tt (test_last (thn (hc pins s3 σ H3 _ I3 q3) λw' s4 ⟨z',H4,I4,r4,q4⟩=>thn (ho' pins s4 σ H4 y z' u w' _ I4 r2 r4 q4) λd' s5 ⟨z2,H5,I5,r5,k2,e2,q5⟩=>?_));subst e2;cases r5;exact Dl #[H5,I5,q5]
def aAp:(sizeLine:Nat)<2 ^ 63:=by rw[Dy];decide
def aH4:OpR X (binaryOp .Add) (λx y H Q=>∃i j,x=.str i/\y=.str j/\i.length+j.length<=sizeLine/\Q (.str (i++j)) H):=by
 intro pins s σ H x y v u Q I rx ry h;obtain⟨i,j,rfl,rfl,hz,q⟩:=h;obtain⟨t,rfl⟩:=rx;obtain⟨t',rfl⟩:=ry;exact add_str (λt' tk=>#[.str (i++j),H,I.tok _,#[_,rfl],q]) hz
def vals1{x:V}(r:Vals [x] us):∃u,us=[u]/\RelV x u:=by
 cases r with
 |cons r1 r2=>cases r2;exact#[_,rfl,r1]
def vals2{x y:V}(r:Vals [x,y] us):∃u w',us=[u,w']/\RelV x u/\RelV y w':=by
 cases r with
 |cons r1 r2=>
  cases r2 with
  |cons r3 r4=>cases r4;exact#[_,_,rfl,r1,r3]
def aKe(hc:X.calm=true):dO X (.builtin "max") (λxs H Q=>∃i j,xs=[.int i,.int j]/\Q (.int (if j>i then j else i)) H):=by
 intro pins s σ H xs us Q I r h;obtain⟨i,j,rfl,q⟩:=h;obtain⟨u,w',rfl,⟨t,rfl⟩,⟨t',rfl⟩⟩:=vals2 r;refine max_two_ints #v[58] λh' tk k=>#[_,H,I.kept k,?_,q];by_cases hj:j>i
 ·rw[if_pos hj,if_pos hj];exact#[_,rfl]
 ·rw[if_neg hj,if_neg hj];exact#[_,rfl]
def aLm(hc:X.calm=true):dO X (.builtin "min") (λxs H Q=>∃i j,xs=[.int i,.int j]/\Q (.int (if j<i then j else i)) H):=by
 intro pins s σ H xs us Q I r h;obtain⟨i,j,rfl,q⟩:=h;obtain⟨u,w',rfl,⟨t,rfl⟩,⟨t',rfl⟩⟩:=vals2 r;refine min_two_ints #v[58] λh' tk k=>#[_,H,I.kept k,?_,q];by_cases hj:j<i
 ·rw[if_pos hj,if_pos hj];exact#[_,rfl]
 ·rw[if_neg hj,if_neg hj];exact#[_,rfl]
def pH:dO X (.type "int") (λxs H Q=>(∃i,xs=[.int i]/\Q (.int i) H)∨∃k,xs=[.bl k]/\Q (.int (if k then 1 else 0)) H):=by
 intro pins s σ H xs us Q I r h;rcases h with ⟨i,rfl,q⟩|⟨k,rfl,q⟩
 ·obtain⟨u,rfl,t,rfl⟩:=vals1 r;exact call_int_int #[.int i,H,I,#[_,rfl],q]
 ·obtain⟨u,rfl,r1⟩:=vals1 r;cases r1;exact call_int_bool #[.int (if k then 1 else 0),H,I.tok _,#[_,rfl],q]
end
structure aHr(h:Heap)(x dx C:Addr)(mA:Str->#v[12]):Prop where
 obj:h.get? x=some (Fq C dx)
 ns:h.Ns1 dx mA
 ne:dx≠x
def aKd{h:Heap}{dx:Addr}(n:h.Ns1 dx mA):∃od,h.get? dx=some od/\∀name,Kp name od=some (mA name):=by
 obtain⟨o,es,ep,ho,hd,hk,_,hm⟩:=n;refine#[o,ho,λname=>?_];have e:=hm name;unfold nsFind findBy at e;rw[<-Array.find?_toList]at e;unfold Kp;rw[hd];dsimp only;split
 ·rename_i y q;rw[q]at e;exact congrArg some e
 ·rename_i q;rw[q]at e;have a:es.toList.any (·.refKey)=false:=by
   rw[List.any_eq_false];intro y hy;obtain⟨z,t,hkey⟩:=hk y (Array.mem_toList_iff.mp hy);simp[DictEntry.refKey,hkey]
  have a':¬es.toList.any (·.refKey)=true:=by rw[a];exact An
  rw[if_neg a'];exact congrArg some e
def aHr.look{h:Heap}{x dx C:Addr}(I:aHr h x dx C mA):∃od,PySem.W.InstAt h x (Fq C dx) C (some od)/\∀name,Kp name od=some (mA name):=
 let⟨od,ho,hl⟩:=aKd I.ns
 #[od,#[I.obj,rfl,rfl,ho],hl]
variable {prog:Program}{A:Around}{E:#v[7]}{K:Ad}{x dx C f:Addr}{mA:Str->#v[12]}{name:Str}{v:Value}
def aS5(X:K.In s.heap)(I:aHr s.heap x dx C mA)(hg:Ju K C name=true)(hh:Lu K C=true)
  (ha:Ef K (.ref C) name=some none) (hv:mA name=some v) (hv':Qv v=true) (h:Q v {s with toks:=s.toks+1}):
  #v[2] (getAttr (.ref x) name expr) Q E s:=by
 obtain⟨od,J,hl⟩:=I.look;exact PySem.W.get_value X J (Kx hg).1 (PySem.W.findObj_own hh ha rfl (by rw[hl,hv])) hv' h
def aMy{Q:Value×List Value->Shared->Prop}(X:K.In s.heap)(I:aHr s.heap x dx C mA)(hg:Ju K C name=true)
  (hf:Ef K (.ref C) name=some (some (.ref f))) (ht:Pa K (.ref f)=true) (hv:mA name=none) (h:Q (.ref f,[.ref x]) s):
  #v[2] (getMethod (.ref x) name pl) Q E s:=by
 obtain⟨od,J,hl⟩:=I.look;exact PySem.W.method_fn X J (Kx hg).1 (Kx hg).2 hf (beq_iff_eq.mp ht) (by show(Kp name od).map (·.isSome)=some false;rw[hl,hv];rfl) h
def aSx{Q:Unit->Shared->Prop}(X:K.In s.heap)(I:aHr s.heap x dx C mA)
  (hs:Ef K (.ref C) "__setattr__"=some (some (.builtin "object.__setattr__"))) (hp:Qk K C=true) (ht:Ml K C name=some none) (hh:Lu K C=true)
  (hw:Pw mA ns) (hsz:ns.length<=sizeLine)
  (h:∀h',aHr h' x dx C (λy=>if y=name then some v else mA y)->Dv dx s.heap h'->Q () {s with heap:=h',toks:=s.toks+2}):
  #v[2] (setAttr (.ref x) name v) Q E s:=by
 obtain⟨od,J,hl⟩:=I.look;refine PySem.W.set_plain X J hs (PySem.W.osa_open (s:={s with toks:=s.toks+1}) (r:=none) X J hp ht λb=>?_);obtain⟨cd,hc,hd'⟩:=PySem.W.any_some hh;have hx:s.heap.get? x=some #[.ref C,some dx,.plain, (List.toArray [])]:=I.obj;refine Aa (Ac (Aa (Aa (wpAny_loadPart hx (Aa (Vm (s:={s with toks:=s.toks+1}) (PySem.W.looks_clsIn X hc) ?_))))));rw[hd'];refine Ac (a:=some dx) (Aa (Ac (Aa ?_)));refine wpAny_nsSet1 (s:={s with toks:=s.toks+1}) I.ns λh' hn2 hs2=>?_;obtain⟨oD,esD,epD,hoD,hdD,hcD⟩:=hn2.count (Wg name v hw);refine Aa (wpAny_lookBehind hoD (by rw[hdD];exact pastItsLine_dict (Ci hcD (by rw[Am];lia))) ?_);exact Ac (h _ #[(hs2.2 _ (Cg I.ne)).trans I.obj,hn2,I.ne] hs2)
def aM8(X:K.In s.heap)(hm:Mm K C=true)
  (hi:Ef K (.ref C) "__init__"=some (some (.ref f))) (hf:PySem.W.typeIn K (.ref f)=some (.type "function"))
  (h:codeAny #v[70] (A.under (.builtin "type.__call__" #[.ref C::vs,kw])) (.call (.ref f) #[.ref (#v[0]+1)::vs,kw]) (PySem.W.InitBack (#v[0]+1) R)
   {s with heap:=(s.heap.push Ek).push (Fq C #v[0])}):
  codeAny #v[70] A (.call (.ref C) #[vs,kw]) R s:=by
 obtain⟨hh,g,d,t,os⟩:=s;exact PySem.W.make_core (PySem.W.makes_of X hm) (PySem.W.looks_findIn X hi) (λself=>PySem.W.bind_fn X self hf) (.inl rfl) h
def lE(f:Str)(v:V):List (Str×V)->List (Str×V)
 | []=>[(f,v)]
 |(g,x)::r=>if g=f then(g,v)::r else(g,x)::lE f v r
theorem xT(f g:Str)(v:V):∀fs:List (Str×V),(lE f v fs).lookup g=if g=f then some v else fs.lookup g
 | []=>by
  show Gb g [(f,v)]=_;by_cases h:g=f
  ·have hb:(g==f)=true:=beq_iff_eq.mpr h;simp only[Gb,hb,if_pos h]
  ·have hb:(g==f)=false:=beq_eq_false_iff_ne.mpr h;simp only[Gb,hb,if_neg h]
 |(k,x)::r=>by
  have ih:=xT f g v r;rw[show lE f v ((k,x)::r)=(if k=f then(k,v)::r else(k,x)::lE f v r)from rfl];by_cases hk:k=f
  ·rw[if_pos hk];by_cases h:g=k
   ·have hb:(g==k)=true:=beq_iff_eq.mpr h;simp only[Gb,hb,if_pos (h.trans hk)]
   ·have hb:(g==k)=false:=beq_eq_false_iff_ne.mpr h;simp only[Gb,hb,if_neg (λe:g=f=>h (e.trans hk.symm))]
  ·rw[if_neg hk];by_cases h:g=k
   ·have hb:(g==k)=true:=beq_iff_eq.mpr h;simp only[Gb,hb,if_neg (λe:g=f=>hk (h.symm.trans e))]
   ·have hb:(g==k)=false:=beq_eq_false_iff_ne.mpr h;simp only[Gb,hb];exact ih
theorem wH(f:Str)(v:V):∀fs:List (Str×V),f∈(lE f v fs).map (·.1)/\∀g,g∈fs.map (·.1)->g∈(lE f v fs).map (·.1)
 | []=>#[by simp[lE],λg h=>by simp at h]
 |(k,x)::r=>by
  obtain⟨i1,i2⟩:=wH f v r;rw[show lE f v ((k,x)::r)=(if k=f then(k,v)::r else(k,x)::lE f v r)from rfl];by_cases hk:k=f
  ·rw[if_pos hk];subst hk;exact#[by simp,λg h=>by simpa using h]
  ·rw[if_neg hk];refine#[?_,λg h=>?_]
   ·rw[Ba];exact Af _ i1
   ·rw[Ba]at h⊢;rcases List.mem_cons.mp h with e|e
    ·exact List.mem_cons.mpr (.inl e)
    ·exact Af _ (i2 g e)
theorem xY(f:Str)(v:V):∀fs:List (Str×V),(lE f v fs).length<=fs.length+1
 | []=>by simp[lE]
 |(k,x)::r=>by
  have ih:=xY f v r;rw[show lE f v ((k,x)::r)=(if k=f then(k,v)::r else(k,x)::lE f v r)from rfl];by_cases hk:k=f
  ·rw[if_pos hk,Am,Am];lia
  ·rw[if_neg hk,Am,Am];lia
def tH.some_of{v:V}{o:#v[12]}(r:tH (some v) o):∃u,o=some u/\RelV v u:=by
 cases o with
 |none=>exact(show False from r).elim
 |some u=>exact#[u,rfl,r]
def tH.none_of{o:#v[12]}(r:tH none o):o=none:=by
 cases o with
 |none=>rfl
 |some u=>exact(show False from r).elim
def aKv{v:V}(r:RelV v u):Qv u=true:=by
 cases v with
 |non=>cases (show u=Bn from r);rfl
 |bl b=>cases (show u=Jr b from r);rfl
 |int i=>obtain⟨t,e⟩:=(show∃t,u=Ec i t from r);cases e;rfl
 |str x=>obtain⟨t,e⟩:=(show∃t,u=Na x t from r);cases e;rfl
 |byt b=>obtain⟨t,e⟩:=(show∃t,u=Vk b t from r);cases e;rfl
 |flt b=>obtain⟨t,e⟩:=(show∃t,u=Qj b t from r);cases e;rfl
 |ref a=>cases (show u=Ao a from r);rfl
 |ty n=>cases (show u=Ge n from r);rfl
variable {fs fs':List (Str×V)}
def zH(hok:HOk P w H h)(e:H a=some #v[82]):∃mA,aHr h a dx C mA/\(∀f,tH (fs.lookup f) (mA f))/\Pw mA (fs.map (·.1))/\fs.length<=1000/\H dx=some (.own a):=by
 obtain⟨d,z,ne,ob,mA,n,r,q⟩:=(show bO P w H h a #v[82]from hok a _ e);exact#[mA,#[ob,n,ne],r,q,z,d]
structure Cls(K:Ad)(C:Addr):Prop where
 pg:Ju K C Str.empty=true
 hd:Lu K C=true
 po:Qk K C=true
 sa:Ef K (.ref C) "__setattr__"=some (some (.builtin "object.__setattr__"))
def Cls.get{K:Ad}{C:Addr}(c:Cls K C)(f:Str):Ju K C f=true:=c.pg
def mU(K:Ad)(C:Addr)(f:Str):Prop:=Ef K (.ref C) f=some none
def mU.taker{K:Ad}{C:Addr}{f:Str}(n:mU K C f):Ml K C f=some none:=by
 unfold Ml;rw[show Ef K (.ref C) f=some none from n];rfl
structure Meth(K:Ad)(C:Addr)(m:Str)(f:Addr):Prop where
 at_:Ef K (.ref C) m=some (some (.ref f))
 fn:Pa K (.ref f)=true
 kp:Hc K (.ref f)=true
section
variable {X:Cx}{pins:#v[8]}{σ:St}{H:Hp}{s:Shared}{a C dx:Addr}{fs:List (Str×V)}{f:Str}{v:V}{A:Around}{E:#v[7]}
def aHi{b:Bool}(I:#v[4])(e:H a=some #v[82])(c:Cls X.K C)(n:mU X.K C f)(l:fs.lookup f=some v)
  (h:∀u s',Inv X pins σ H s'->RelV v u->Q u s'):wpAny #v[p] A (getAttr (.ref a) f b) Q E s:=by
 obtain⟨mA,O,r,_,_,_⟩:=zH I.hok e;obtain⟨u,hu,ru⟩:=tH.some_of (v:=v) (o:=mA f) (by rw[<-l];exact r f);exact aS5 I.kIn O (c.get f) c.hd n hu (aKv ru) (h u _ (I.tok _) ru)
def zN{g:Addr}{Q:Value×List Value->Shared->Prop}(I:#v[4])(e:H a=some #v[82])(c:Cls X.K C)(k:Meth X.K C m g)(l:fs.lookup m=none)
  (h:Q (.ref g,[.ref a]) s):wpAny #v[p] A (getMethod (.ref a) m pl) Q E s:=by
 obtain⟨mA,O,r,_,_,_⟩:=zH I.hok e;have hn:mA m=none:=tH.none_of (by rw[<-l];exact r m);exact aMy I.kIn O (c.get m) k.at_ k.fn hn h
def aGw{Q:Unit->Shared->Prop}(I:#v[4])(e:H a=some #v[82])(c:Cls X.K C)(n:mU X.K C f)(hl:fs.length<1000)(ry:RelV y u)
  (h:∀s',Inv X pins σ (upd H a (.ins C dx (lE f y fs))) s'->Q () s'):wpAny #v[p] A (setAttr (.ref a) f u) Q E s:=by
 obtain⟨mA,O,r,wi,_,ho⟩:=zH I.hok e;have hz:(fs.map (·.1)).length<=sizeLine:=by rw[Ab,Dy];lia
 refine aSx I.kIn O c.sa c.po n.taker c.hd wi hz λh' O' sb=>h _ ?_;have hd:∃o,h'.get? dx=some o:=let⟨o,_,_,e',_⟩:=O'.ns;#[o,e'];refine I.write (x:=a) (e:=dx) (by rw[e];exact Fu) (.inr ho) (λb q hb z=>(sb.2 b hb).trans z) hd ?_;refine#[by rw[aN O.ne];exact ho,?_,O.ne,O'.obj,_,O'.ns,λg=>?_,λg hg=>?_]
 ·have:=xY f y fs;lia
 ·show tH ((lE f y fs).lookup g) (if g=f then some u else mA g);rw[xT];by_cases q:g=f
  ·rw[if_pos q,if_pos q];exact ry
  ·rw[if_neg q,if_neg q];exact r g
 ·by_cases q:g=f
  ·rw[q];exact(wH f y fs).1
  ·refine(wH f y fs).2 g (wi g λz=>hg ?_);show(if g=f then some u else mA g)=none;rw[if_neg q];exact z
def Inv.made(I:#v[4]):Inv X pins σ (upd (upd H #v[0] (.own (#v[0]+1))) (#v[0]+1) (.ins C #v[0] []))
  {s with heap:=(s.heap.push Ek).push (Fq C #v[0])}:=by
 have e1:(s.heap.push Ek).get? #v[0]=some Ek:=Ap s.heap rfl;have e2:((s.heap.push Ek).push (Fq C #v[0])).get? (#v[0]+1)=some (Fq C #v[0]):=by
  have:=Ap (s.heap.push Ek) (o:=Fq C #v[0]) rfl
  rwa [Ck]at this
 have e3:(s.heap.push Ek).Ns #v[0] (λ_=>none):=#[Ek, (List.toArray []),_,e1,rfl,(λe he=>absurd he (by simp)),λ_=>rfl];have I1:=I.laid (a:=#v[0]) (o:=.own (#v[0]+1)) (h':=s.heap.push Ek) (t':=s.toks) (λb u q=>Ae _ q) (Aj _) #[_,e1];refine I1.laid (a:=#v[0]+1) (o:=.ins C #v[0] []) (t':=s.toks) (λb u q=>Ae _ q) (Qp (Ck _ _)) ?_;have ne:#v[0]≠#v[0]+1:=Aw (Fj _);refine#[by rw[aN ne,aP],Bg _,ne,e2,λ_=>none,(Heap.Ns1.of_empty e3).at λo q=>Ae _ q,λ_=>Fu,λy hy=>absurd rfl hy]
def aR5{prog:Program}{w:World}{e:Expr}{f:Str}{pos:Pos}{s:Shared}(hb:attributeBase e f env (eval e env)=eval e env)
  (h:#v[2] (eval e env) (λo s₁=>#v[2] (getAttr o f true) Q E s₁) E s):#v[2] (eval (.Attribute e f pos) env) Q E s:=
 Attribute_any_ h (by rw[arm_eval_Attribute,hb])
end
def bA3(K:Ad)(ta:TE)(f:Str):TE:=λσ H Q=>ta σ H λx H1=>∃a C dx fs v,x=.ref a/\H1 a=some #v[82]/\Cls K C/\mU K C f/\fs.lookup f=some v/\Q v H1
def bB4(K:Ad)(ta tv:TE)(f:Str):TS:=λD σ H=>tv σ H λy H1=>ta σ H1 λx H2=>∃a C dx fs,x=.ref a/\H2 a=some #v[82]/\Cls K C/\mU K C f/\fs.length<1000/\
 D.nx σ (upd H2 a (.ins C dx (lE f y fs)))
section
variable {X:Cx}{o e value:Expr}{f:Str}{pos pos' tpos:Pos}{ta tv:TE}
def aVm(he:PE X e ta)(hb:attributeBase e f X.env (eval e X.env)=eval e X.env):PE X (.Attribute e f pos) (bA3 X.K ta f):=by
 intro pins s σ H Q I h;refine aR5 hb (thn #v[47] λu s1 ⟨x,H1,I1,rx,a,C,dx,fs,v,ex,ea,c,n,l,q⟩=>?_);subst ex;obtain rfl:u=Ao a:=rx;exact aHi I1 ea c n l λu' s2 I2 ru=>#[v,H1,I2,ru,q]
def eZ(ha:PE X o ta)(hv:PE X value tv)(hs:swapsWith value (some (.Attribute o f pos')) pos.line X.env=pure false):PS X (.Assign [.Attribute o f pos'] value pos) (bB4 X.K ta tv f):=by
 intro pins s σ H D I h;refine plainObj_wpAny_Assign_Attribute (thn (hv pins s σ H _ I h) λu s1 ⟨y,H1,I1,ry,q⟩=>thn (ha pins s1 σ H1 _ I1 q) λov s2 ⟨x,H2,I2,rx,a,C,dx,fs,ex,ea,c,n,l,q2⟩=>?_) hs;subst ex;obtain rfl:ov=Ao a:=rx;exact aGw I2 ea c n l ry λs3 I3=>#[σ,_,I3,q2]
end
section
variable {X:Cx}{pins:#v[8]}{σ:St}{H:Hp}{s:Shared}{A:Around}{E:#v[7]}{Q:#v[7]}{c:Value}{b:Bool}
inductive vU(K:Ad)(H:Hp):V->Value->Prop where
 |non:vU K H .non (.type "NoneType")
 |bl (x:Bool):vU K H (.bl x) (.type "bool")
 |int (i:Int):vU K H (.int i) (.type "int")
 |str (x:Str):vU K H (.str x) (.type "str")
 |flt (x:UInt64):vU K H (.flt x) (.type "float")
 |lst {a:Addr} {xs:List V} (e:H a=some (.lst xs)):vU K H (.ref a) (.type "list")
 |frz {a:Addr} {o:Obj} {xs:List V} (e:H a=some (.frz o (.lst xs))):vU K H (.ref a) (.type "list")
 |tup {a:Addr} {xs:List V} (e:H a=some (.tup xs)):vU K H (.ref a) (.type "tuple")
 |dK {a:Addr} {kvs:List (Key×V)} (e:H a=some (.dK kvs)):vU K H (.ref a) (.type "dict")
 |dT {a:Addr} {kvs:List (List Key×V)} (e:H a=some (.dT kvs)):vU K H (.ref a) (.type "dict")
 |ins {a C dx:Addr} {fs:List (Str×V)} (e:H a=some #v[82]) (cl:Cls K C) (ha:Ef K (.ref C) "__class__"=some (some (.builtin "object.__class__")))
   (hn:PySem.W.specialIn K (.builtin "object.__class__") "__get__"=some (some (.builtin "getset_descriptor.__get__"))) (htk:PySem.W.takesIn K (.builtin "object.__class__")=some true)
   (hm:PySem.W.mroIn K C (.type "object")=some true):vU K H (.ref a) (.ref C)
def aL0{x:V}{u t:Value}(I:#v[4])(rx:RelV x u)(ty:vU X.K H x t)(e:Nb X.K t c=some b)(h:∀tk,Q (.bool b) {s with toks:=tk}):
  wpAny #v[p] A (call (.builtin "isinstance") [u,c]) Q E s:=by
 cases ty with
 |non=>cases (show u=Bn from rx);exact Dt PySem.W.kitx_none I.kIn Fu e (λz=>nomatch z) h
 |bl y=>cases (show u=Jr y from rx);exact Dt PySem.W.kitx_bool I.kIn Fu e (λz=>nomatch z) h
 |int i=>obtain⟨t,q⟩:=(show∃t,u=Ec i t from rx);cases q;exact Dt PySem.W.kitx_int I.kIn Fu e (λz=>nomatch z) h
 |str y=>obtain⟨t,q⟩:=(show∃t,u=Na y t from rx);cases q;exact Dt PySem.W.kitx_str I.kIn Fu e (λz=>nomatch z) h
 |flt y=>obtain⟨t,q⟩:=(show∃t,u=Qj y t from rx);cases q;exact Dt PySem.W.kitx_float I.kIn Fu e (λz=>nomatch z) h
 |@lst a xs ea=>
  cases (show u=Ao a from rx);obtain⟨_,_,n,_,h1⟩:=(show bO X.prog X.w H s.heap a (.lst xs)from I.hok a _ ea);exact Dt Ql I.kIn #[_,h1,rfl] e (λz=>nomatch z) h
 |@frz a ob xs ea=>
  cases (show u=Ao a from rx);obtain⟨_,_,_,n,_,h1⟩:=(show bO X.prog X.w H s.heap a (.frz ob (.lst xs))from I.hok a _ ea);exact Dt Ql I.kIn #[_,h1,rfl] e (λz=>nomatch z) h
 |@tup a xs ea=>
  cases (show u=Ao a from rx);obtain⟨_,_,_,p⟩:=(show bO X.prog X.w H s.heap a (.tup xs)from I.hok a _ ea);obtain⟨o,h1,h2,_⟩:=p;exact Dt PySem.W.kitx_tuple I.kIn #[o,h1,h2] e (λz=>nomatch z) h
 |@dK a kvs ea=>
  cases (show u=Ao a from rx);obtain⟨_,_,vs,_,p⟩:=(show bO X.prog X.w H s.heap a (.dK kvs)from I.hok a _ ea);obtain⟨o,es,ep,h1,h2,_⟩:=p;exact Dt Ls I.kIn #[o,h1,h2.1] e (λz=>nomatch z) h
 |@dT a kvs ea=>
  cases (show u=Ao a from rx);obtain⟨_,_,xs,_,o,es,ep,h1,h2,_⟩:=(show bO X.prog X.w H s.heap a (.dT kvs)from I.hok a _ ea);exact Dt Ls I.kIn #[o,h1,h2.1] e (λz=>nomatch z) h
 |@ins a C dx fs ea cl ha hn htk hm=>
  cases (show u=Ao a from rx);obtain⟨mA,O,_⟩:=zH I.hok ea;obtain⟨od,J,_⟩:=O.look;exact Dt (PySem.W.kitx_own (cl.get _) cl.hd ha hn htk hm) I.kIn J e (λz=>nomatch z) h
end
structure eY(k:Nat)(A:Around):Prop where
 hd:A.handled=none
 dp:A.depth+3*k+5<recursionLimit
 un:A.units+16*k+200<cLine
def eY.mono{j k:Nat}{A:Around}(r:eY k A)(h:j<=k):eY j A:=#[r.hd,by have:=r.dp;lia,by have:=r.un;lia]
def eY.deeper{A:Around}(r:eY (k+1) A)(env:Env):eY k (A.deeper env):=
 #[r.hd,by have:=r.dp;show A.depth+1+3*k+5<_;lia,by have:=r.un;show A.units+3+16*k+200<_;lia]
def aHz{A:Around}{C:Addr}:#v[17].depth=A.depth+1:=by
 first|rfl|simp[Pm,Code.weight,Code.isCreation,Code.isGuard,Code.isCaller,Wt,Qf,guardIds]
def aIu{A:Around}{C:Addr}:#v[17].units=A.units+1:=by
 first|rfl|simp[Pm,Code.cUnits,Wt,Qf]
def eY.make{A:Around}(r:eY (k+1) A)(C:Addr)(us:List Value)(kw:List (Str×Value)):eY k #v[17]:=
 #[r.hd,by have:=r.dp;rw[aHz];lia,by have:=r.un;rw[aIu];lia]
def eY.depth{A:Around}(r:eY k A):A.depth<recursionLimit:=by have:=r.dp;lia
def aIm:TA:=λ_ H Q=>Q [] H
def aJg(ta:TE)(tr:TA):TA:=λσ H Q=>ta σ H λx H1=>tr σ H1 λxs H2=>Q (x::xs) H2
section
variable {X:Cx}{e:Expr}{es:List Expr}{te:TE}{t:TA}{pos:Pos}
def dN:PA X [] aIm:=λ_ _ _ _ H Q I h=>Ru #[[],H,I,.nil,h]
def bZ(ha:PE X e te)(hr:PA X es t)(hs:SE X e es:=by rfl):PA X (e::es) (aJg te t):=by
 intro pos pins s σ H Q I h;rw[hs];show wpAny _ _ (spliced ((false,eval e X.env)::backTo pos (starEach es X.env))) _ _ s;refine Rc (thn #v[r] λu s1 ⟨x,H1,I1,r1,q1⟩=>?_);exact thn (hr pos pins s1 σ H1 _ I1 q1) λus s2 ⟨xs,H2,I2,r2,q2⟩=>#[x::xs,H2,I2,.cons r1 r2,q2]
def bBl(t:TA):TE:=λσ H Q=>t σ H λxs H1=>xs.length<=sizeLine/\∀p,H1 p=none->Q (.ref p) (upd H1 p (.tup xs))
def aVu(t:TA):TE:=λσ H Q=>t σ H λxs H1=>xs.length<=sizeLine/\∀p,H1 p=none->Q (.ref p) (upd H1 p (.lst xs))
def aX0{x1}(h:PA X es t):PE X (.Tuple es x1 pos) (bBl t):=by
 intro pins s σ H Q I hq;refine wpAny_Tuple_spliced (thn (h pos pins s σ H _ I hq) λus s1 ⟨xs,H1,I1,r,z,q⟩=>#[by rw[<-r.length];exact z,?_]);have hf:H1 s1.heap.objs.size=none:=I1.hok.fresh (Aj _);refine#[.ref s1.heap.objs.size,upd H1 s1.heap.objs.size (.tup xs),I1.laid (t':=s1.toks) (λb u e=>Ae _ e) (Aj _) ?_,rfl,q _ hf];exact#[z,us,r,#[_,Ap _ rfl,rfl,_,rfl]]
def aD3(h:PA X es t):PE X (.List es pos) (aVu t):=by
 intro pins s σ H Q I hq;refine wpAny_List_spliced (thn (h pos pins s σ H _ I hq) λus s1 ⟨xs,H1,I1,r,z,q⟩=>#[by rw[<-r.length];exact z,?_]);have hf:H1 s1.heap.objs.size=none:=I1.hok.fresh (Aj _);refine#[.ref s1.heap.objs.size,upd H1 s1.heap.objs.size (.lst xs),I1.laid (t':=s1.toks) (λb u e=>Ae _ e) (Aj _) ?_,rfl,q _ hf];exact#[z,us,0,r,Ap _ rfl]
end
abbrev Sp:=List V->Hp->VK->XK->Prop
abbrev CXT:=List Env->Hp->Shared->XK->#v[7]
structure aHx(P:Program)(w:World)(K:Ad)(mg:Str->#v[12])(base:Heap)(A:Around)(outer:List Env)(s:Shared)(H:Hp):Prop where
 frames:A.frames=some outer
 mod:Mod K mg base
 bs:∀b o,base.get? b=some o->s.heap.get? b=some o/\H b=none
 bsz:base.objs.size<=#v[0]
 funs:s.heap.FunFrames base outer
 frf:∀b∈frs outer,H b=none
 hok:HOk P w H s.heap
 bare:AllBare s.gens
def CE(outer:List Env)(P:Program)(w:World)(H:Hp)(s:Shared)(Q:VK)(u:Value)(s':Shared):Prop:=
 ∃v H',s'.os=s.os/\AllBare s'.gens/\Un (frs outer) [] H H' s.heap s'.heap/\HOk P w H' s'.heap/\RelV v u/\Q v H'
def CR(CX:CXT)(outer:List Env)(P:Program)(w:World)(H:Hp)(s:Shared)(Q:VK)(E:XK)(r:Result)(s':Shared):Prop:=
 match r with
 |.ok (.ret u)=>CE outer P w H s Q u s'
 |.ok _=>False
 |.error e=>CX outer H s E e s'
structure bJ(P:Program)(w:World)(K:Ad)(mg:Str->#v[12])(base:Heap)(CX:CXT)(k:Nat)(f:Addr)(fd:FuncData)(ps:List Str)(sp:Sp):Prop where
 len:∀vs H Q E,sp vs H Q E->vs.length=ps.length
 run:∀(A:Around)(outer:List Env)(s:Shared)(H:Hp)(args:Args)(us:List Value)(vs:List V)(Q:VK)(E:XK),eY k A->aHx P w K mg base A outer s H->BindsTo s fd args (ps.zip us)->Vals vs us->sp vs H Q E->
  codeAny (model P w) A (.call (.ref f) args) (CR CX outer P w H s Q E) s
def bJ.mono{P:Program}{w:World}{K:Ad}{CX:CXT}{j k:Nat}{f:Addr}{fd:FuncData}{ps:List Str}{sp:Sp}(F:bJ P w K mg base CX j f fd ps sp)(h:j<=k):
  bJ P w K mg base CX k f fd ps sp:=#[F.len,λA outer s H args us vs Q E hr=>F.run A outer s H args us vs Q E (hr.mono h)]
def aHx.make{P:Program}{w:World}{K:Ad}{A:Around}{outer:List Env}{s:Shared}{H:Hp}(e:aHx P w K mg base A outer s H)(C:Addr)(us:List Value)(kw:List (Str×Value)):
  aHx P w K mg base #v[17] outer s H:=#[by first|exact e.frames|(simpa[Pm,Code.envs,Qf,pushEnvs]using e.frames),e.mod,e.bs,e.bsz,e.funs,e.frf,e.hok,e.bare]
section
variable {X:Cx}{pins:#v[8]}{σ:St}{H:Hp}{s s':Shared}
def Inv.env0(I:#v[4]):aHx X.prog X.w X.K X.mg X.base X.A X.stack s H:=
 #[I.ok.frames,I.ok.mod,I.bs,Ci I.ok.bsz I.sz,I.stack,I.stkFree,I.hok,I.bare]
def Inv.after{Q:VK}(I:#v[4])(h:CE X.stack X.prog X.w H s Q u s'):EP X pins σ Q u s':=by
 obtain⟨v,H',os,bare,un,hok,r,q⟩:=h;obtain⟨hh,g,d,t,os'⟩:=s';obtain rfl:os'=s.os:=os;exact#[v,H',I.call (h':=hh) (g':=g) (d':=d) (t':=t) (ch:=[]) un hok bare (λb z=>absurd z (by simp)),r,q]
end
def aTq(sp:Sp)(dvs:List V)(E:XK)(t:TA):TE:=λσ H Q=>t σ H λvs H1=>sp (vs++dvs) H1 Q E
def bAo(C:Addr)(sp:Sp)(dvs:List V)(E:XK)(t:TA):TE:=λσ H Q=>t σ H λvs H1=>∀x dx,H1 x=none->H1 dx=none->dx≠x->
 sp (.ref x::(vs++dvs)) (upd (upd H1 dx (.own x)) x (.ins C dx [])) (λv H2=>v=.non/\Q (.ref x) H2) E
def Binds(K:Ad)(fd:FuncData)(ps:List Str)(ds:List Value):Prop:=
 ∀(s:Shared)(us:List Value),K.In s.heap->(us++ds).length=ps.length->BindsTo s fd #[us,[]] (ps.zip (us++ds))
def Binds.all{K:Ad}{fd:FuncData}{ps:List Str}(h:∀us:List Value,us.length=ps.length->bindArgs fd #[us,[]]=pure (ps.zip us)):Binds K fd ps []:=λs us _ hl=>by
 rw[Bb]at hl⊢;exact .of_eq (h us hl)
def sH(CX:CXT)(X:Cx)(E:XK):Prop:=∀(pins:#v[8])(σ:St)(H:Hp)(s:Shared)(e:Value)(s':Shared),#v[4]->CX X.stack H s E e s'->X.xe e s'
section
variable {X:Cx}{CX:CXT}{k:Nat}{f C:Addr}{fd:FuncData}{ps:List Str}{sp:Sp}{dvs:List V}{ds:List Value}{E:XK}{x m:Str}{p pos apos:Pos}{e o:Expr}{es:List Expr}{ta:TE}{t:TA}
def aHv{pins:#v[8]}{σ:St}{H:Hp}{s:Shared}{Q:VK}(F:#v[42])(hr:eY k X.A)(hb:Binds X.K fd ps ds)(hd:Vals dvs ds)(hx:sH CX X E)
  (I:#v[4]) (r:Vals vs us) (h:sp (vs++dvs) H Q E):#v[6] (call (.ref f) us) #v[21] X.xe s:=by
 have r2:Vals (vs++dvs) (us++ds):=r.append hd;have hl:(us++ds).length=ps.length:=by rw[<-r2.length];exact F.len _ _ _ _ h
 refine Qt (Kc (F.run X.A X.stack s H #[us,[]] (us++ds) (vs++dvs) Q E hr I.env0 (hb s us I.kIn hl) r2 h) λr s' hq=>?_);cases r with
 |error e=>exact hx pins σ H s e s' I hq
 |ok fl=>
  cases fl with
  |ret u=>exact I.after hq
  |next=>exact Ft hq
  |brk=>exact Ft hq
  |cont=>exact Ft hq
def aTa(F:#v[42])(hr:eY k X.A)(hg:Gl X x)(hm:X.mg x=some (.ref f))(hk:Hc X.K (.ref f)=true)(hb:Binds X.K fd ps ds)(hd:Vals dvs ds)(hx:sH CX X E)
  (ha:PA X (e::es) t) (hdb:ND x:=by decide) (he:SE X e es:=by rfl) (hpl:BT X pos es:=by rfl):
  PE X #v[48] (aTq sp dvs E t):=by
 intro pins s σ H Q I h;refine Fs (aDq I hg hm ?_ hdb);refine Le (h₀:=X.base) I.ok.mod.kin hk (thn #v[P] λus s1 ⟨vs,H1,I1,r,q⟩=>#[I1.kIn,?_]) he hpl;exact aHv F hr hb hd hx I1 r q
structure Mk(K:Ad)(C f:Addr):Prop where
 makes:Mm K C=true
 init:Ef K (.ref C) "__init__"=some (some (.ref f))
 fn:Pa K (.ref f)=true
 kp:Hc K (.ref C)=true
def aPm{pins:#v[8]}{σ:St}{H:Hp}{s:Shared}{Q:VK}(M:Mk X.K C f)(F:#v[42])(hr:eY (k+1) X.A)(hb:Binds X.K fd ps ds)(hd:Vals dvs ds)
  (hx:sH CX X E) (I:#v[4]) (r:Vals vs us)
  (h:∀x dx,H x=none->H dx=none->dx≠x->sp (.ref x::(vs++dvs)) (upd (upd H dx (.own x)) x (.ins C dx [])) (λv H2=>v=.non/\Q (.ref x) H2) E):
  #v[6] (call (.ref C) us) #v[21] X.xe s:=by
 have hq:=h (#v[0]+1) #v[0] (I.hok.fresh (Gd _)) #v[G] (Aw (Fj _));have I2:=Inv.made (C:=C) I;have r2:Vals (V.ref (#v[0]+1)::(vs++dvs)) (Ao (#v[0]+1)::(us++ds)):=.cons rfl (r.append hd);have hl:(Ao (#v[0]+1)::us++ds).length=ps.length:=by
  have e:=r2.length;rw[F.len _ _ _ _ hq]at e;exact e.symm
 refine Qt (aM8 (f:=f) I.kIn M.makes M.init (beq_iff_eq.mp M.fn) (Kc (F.run _ X.stack _ _ #[Ao (#v[0]+1)::us,[]] (Ao (#v[0]+1)::(us++ds)) _ _ E (hr.make C us [])
  (I2.env0.make C us []) (hb _ (Ao (#v[0]+1)::us) I2.kIn hl) r2 hq) λr s' hq'=>?_))
 cases r with
 |error e=>exact hx pins σ _ _ e s' I2 hq'
 |ok fl=>
  cases fl with
  |ret u=>
   obtain⟨v,H',I3,rv,ev,q3⟩:=I2.after hq';subst ev;exact#[rv,#[V.ref (#v[0]+1),H',I3,rfl,q3]]
  |next=>exact Ft hq'
  |brk=>exact Ft hq'
  |cont=>exact Ft hq'
def aRe(M:Mk X.K C f)(F:#v[42])(hr:eY (k+1) X.A)(hg:Gl X x)(hm:X.mg x=some (.ref C))(hb:Binds X.K fd ps ds)(hd:Vals dvs ds)(hx:sH CX X E)
  (ha:PA X (e::es) t) (hdb:ND x:=by decide) (he:SE X e es:=by rfl) (hpl:BT X pos es:=by rfl):
  PE X #v[48] (bAo C sp dvs E t):=by
 intro pins s σ H Q I h;refine Fs (aDq I hg hm ?_ hdb);refine Le (h₀:=X.base) I.ok.mod.kin M.kp (thn #v[P] λus s1 ⟨vs,H1,I1,r,q⟩=>#[I1.kIn,?_]) he hpl;exact aPm M F hr hb hd hx I1 r q
end
def PK(X:Cx)(kws:List Keyword)(t:TA):Prop:=
 ∀(pos:Pos)(pins:#v[8])(s:Shared)(σ:St)(H:Hp)(Q:List V->Hp->Prop),#v[4]->t σ H Q->#v[6] (evalAll (#v[29].map (·.2))) (AP X pins σ Q) X.xe s
section
variable {X:Cx}{CX:CXT}{k:Nat}{f C:Addr}{fd:FuncData}{ps ks:List Str}{sp:Sp}{E:XK}{x m:Str}{p pos apos kpos:Pos}{e o:Expr}{es:List Expr}{kws:List Keyword}{te ta:TE}{t tk:TA}{nm:Option Str}
def aP7:PK X [] aIm:=λ_ _ _ _ H Q I h=>wpAny_evalAll_nil #[[],H,I,.nil,h]
def aJh(ha:PE X e te)(hr:PK X kws t):PK X (#[nm,e,kpos]::kws) (aJg te t):=by
 intro pos pins s σ H Q I h;show wpAny _ _ (evalAll ((do let v<-eval e X.env;standAt pos;pure v)::#v[29].map (·.2))) _ _ s;refine wpAny_evalAll_cons (Aa (thn #v[r] λu s1 ⟨x,H1,I1,r1,q1⟩=>Aa (Ku (Ac ?_))));exact thn (hr pos pins s1 σ H1 _ I1 q1) λus s2 ⟨xs,H2,I2,r2,q2⟩=>#[x::xs,H2,I2,.cons r1 r2,q2]
variable {g:List Value->List Value->List Value}{gV:List V->List V->List V}
end
structure aQ(N P:List Str)(sc:Scope):Prop where
 kind:sc.kind=.function:=by rfl
 co:sc.isCoroutine=false:=by rfl
 gen:sc.isGenerator=false:=by rfl
 nd:N.Nodup:=by decide+kernel
 pre:N.take P.length=P:=by rfl
 par:∀x∈P,sc.names.lookup x=some .local∨sc.names.lookup x=some .cell:=by decide+kernel
 nofree:∀y∈sc.names,y.2≠.free:=by decide+kernel
theorem aB7{kindOf:Str->Option NameKind}{x:Str}:∀{binds:List (Str×Value)}{m:Str->#v[12]},(∀v,(x,v)∉binds)->bindL kindOf binds m x=m x
 | [],_,_=>rfl
 |(n,v)::r,m,h=>by
  unfold bindL;rw[aB7 λw hw=>h w (Af _ hw)];split
  ·have:x≠n:=by rintro rfl;exact h v Ah
   simp[this]
  ·rfl
theorem aB8{kindOf:Str->Option NameKind}{x:Str}:∀{binds:List (Str×Value)}{m:Str->#v[12]},(∀v,(x,v)∉binds)->bindC kindOf binds m x=m x
 | [],_,_=>rfl
 |(n,v)::r,m,h=>by
  unfold bindC;rw[aB8 λw hw=>h w (Af _ hw)];split
  ·rfl
  ·have:x≠n:=by rintro rfl;exact h v Ah
   simp[this]
theorem aCj{kindOf:Str->Option NameKind}{x:Str}{v:Value}:∀{P:List Str}{vs:List Value}{i:Nat}{m:Str->#v[12]},P.Nodup->P[i]? =some x->vs[i]? =some v->kindOf x=some .local->
  bindL kindOf (P.zip vs) m x=some v
 | [],_,_,_,_,h,_,_=>by simp at h
 |_::_,[],_,_,_,_,h,_=>by simp at h
 |p::P,w::vs,0,m,nd,h1,h2,hk=>by
  simp at h1 h2;subst h1;subst h2;show bindL kindOf ((p,w)::P.zip vs) m p=_;unfold bindL;rw[aB7 λv hv=>(List.nodup_cons.mp nd).1 (Nq hv).1,if_pos hk];simp
 |p::P,w::vs,i+1,m,nd,h1,h2,hk=>by
  show bindL kindOf ((p,w)::P.zip vs) m x=_;unfold bindL;exact aCj (i:=i) (List.nodup_cons.mp nd).2 (by simpa using h1) (by simpa using h2) hk
theorem aBx{kindOf:Str->Option NameKind}{x:Str}{v:Value}:∀{P:List Str}{vs:List Value}{i:Nat}{m:Str->#v[12]},P.Nodup->P[i]? =some x->vs[i]? =some v->kindOf x≠some .local->
  bindC kindOf (P.zip vs) m x=some v
 | [],_,_,_,_,h,_,_=>by simp at h
 |_::_,[],_,_,_,_,h,_=>by simp at h
 |p::P,w::vs,0,m,nd,h1,h2,hk=>by
  simp at h1 h2;subst h1;subst h2;show bindC kindOf ((p,w)::P.zip vs) m p=_;unfold bindC;rw[aB8 λv hv=>(List.nodup_cons.mp nd).1 (Nq hv).1,if_neg hk];simp
 |p::P,w::vs,i+1,m,nd,h1,h2,hk=>by
  show bindC kindOf ((p,w)::P.zip vs) m x=_;unfold bindC;exact aBx (i:=i) (List.nodup_cons.mp nd).2 (by simpa using h1) (by simpa using h2) hk
def start(N:List Str)(vs:List V):St:=vs.map some++Az (N.length-vs.length) none
def aIt(CX:CXT)(P:Program)(w:World)(K:Ad)(mg:Str->#v[12])(base:Heap)(N:List Str)(qual:Str)(scope:Scope)(f:Addr)(cd:Value)(A:Around)(outer:List Env)(s:Shared)(H:Hp)(E:XK):Cx where
 prog:=P
 w:=w
 K:=K
 mg:=mg
 base:=base
 A:=A.deeper #v[83]
 N:=N
 s₀:=s
 H₀:=H
 env:=envOfC qual scope #v[0] f cd
 outer:=outer
 stack:=envOfC qual scope #v[0] f cd::outer
 ex:=[]
 calm:=true
 fn:=λ_=>true
 pn:=[]
 xe:=λe s'=>wpAny (model P w) (A.deeper #v[83]) (leaving #v[83] e) (λ_ s''=>CX outer H s E e s'') (λe' s''=>CX outer H s E e' s'') s'
def aV{sc:Scope}{n:Nat}{x:Str}(h:sc.names.lookup x=some .cell):∃c,(cellsFrom n sc.names []).lookup x=some c:=by
 have q:=Ka sc.names n [] (.inl h);exact Option.isSome_iff_exists.mp q
def aKw{CX:CXT}{P:Program}{w:World}{K:Ad}{qual:Str}{scope:Scope}{f:Addr}{cd:Value}{A:Around}{outer:List Env}{s s1:Shared}{H:Hp}{E:XK}{vs:List V}
  (S:aQ N ps scope) (hd:#v[O]) (e0:aHx P w K mg base A outer s H) (hl:vs.length=ps.length) (r:Vals vs us)
  (x:InCallC s #v[0] (bindL #v[83].kindOf (ps.zip us) λ_=>none) (cellsFrom (#v[0]+1) scope.names []) (bindC #v[83].kindOf (ps.zip us) λ_=>none) s1):
  Inv (aIt CX P w K mg base N qual scope f cd A outer s H E) [] (start N vs) H s1:=by
 have hpl:ps.length<=N.length:=by have:=congrArg Eh S.pre;rw[Eu]at this;lia
 obtain⟨h1,tk,rfl,hk⟩:=x.done;have noA:∀b:Addr,b∉(aIt CX P w K mg base N qual scope f cd A outer s H E).ex:=λb z=>absurd (show b∈([]:List Addr)from z) (by simp);refine⟨#[e0.mod,S.kind,rfl,rfl,Aj _,λy z c h1 h2=>?_,λy hy=>?_,λy c _ h=>?_,λ_=>hd,Around.frames_deeper e0.frames,.inr #[rfl,rfl],λb z=>absurd z (noA b),e0.bs,e0.bsz,λb _ _=>noA b,λb z=>absurd z (noA b),e0.funs,e0.frf],
  rfl,e0.bare,Un.kept hk,#[_,x.toInCall.ns,λi y v h1 h2 h3=>?_],λy c h=>#[_,x.cell y c h],e0.hok.fresh (Aj _),λy c h=>?_,λp hp=>absurd (show p∈([]:#v[8])from hp) (by simp),e0.hok.kept hk,?_⟩
 ·exact name_of_addr x.apart (Cq h1) (Cq h2)
 ·have hy:scope.names.lookup y=some .cell∨scope.names.lookup y=some .free:=hy;rcases hy with hy|hy
  ·exact aV hy
  ·exact absurd rfl (S.nofree _ (Cq hy))
 ·exact Fd (x.above y c (Cq h))
 ·have hi:i<vs.length:=by
   unfold start at h2;by_cases hi:i<vs.length
   ·exact hi
   ·rw[Dq (by simpa using hi)]at h2;rw[Ey]at h2;split at h2<;>cases h2
  have ha:vs[i]? =some v:=by
   unfold start at h2;rw[Di (by simpa using hi),Ay]at h2;cases e:vs[i]? with
   |none=>rw[e]at h2;cases h2
   |some a=>rw[e]at h2;cases h2;rfl
  obtain⟨u,hu,rv⟩:=r.get ha;have hp:ps[i]? =some y:=by
   rw[<-S.pre,List.getElem?_take_of_lt ∅];exact h1
  have ndP:ps.Nodup:=by rw[<-S.pre];exact S.nd.sublist (Mj _ _)
  refine#[u,rv,?_];rcases S.par y (Ai hp)with k|k
  ·exact .inl #[k,aCj ndP hp hu k]
  ·obtain⟨c,e⟩:=aV (n:=#v[0]+1) k;refine .inr #[.inl k,c,e,?_];have q:=x.cell y c e;rw[aBx ndP hp hu (by show scope.names.lookup y≠_;rw[k];decide)]at q;exact q
 ·exact e0.hok.fresh (Fd (x.above y c (Cq h)))
 ·unfold start;show _=N.length;rw[Al,Ab,Dn]
  lia
def aYn{CX:CXT}{P:Program}{w:World}{K:Ad}{f:Addr}{name qual:Str}{params:Arguments}{scope:Scope}{dV kV doc pm cdv ct oc:Value}{an od:Option Addr}
  {osl:Array (#v[12])} {sp:Sp} (lk:K.lookup f=some #[oc,od,.func (Ex name qual params body scope dV kV doc pm an cdv ct),osl]) (hcd:Nd K cdv qual=true) (S:aQ N ps scope)
  (len:∀vs H Q E,sp vs H Q E->vs.length=ps.length)
  (hbody:∀(A:Around)(outer:List Env)(s:Shared)(H:Hp)(vs:List V)(Q:VK)(E:XK),eY k (A.deeper (envOfC qual scope #v[0] f cdv))->sp vs H Q E->
   ∃t,PSs #v[79] body t/\t {nx:=λ_ H'=>Q .non H',rt:=Q} (start N vs) H):
  bJ P w K mg base CX (k+1) f (Ex name qual params body scope dV kV doc pm an cdv ct) ps sp:=by
 refine#[len,λA outer s H args us vs Q E hr e0 hb r hsp=>?_];have hl:=len _ _ _ _ hsp;have KX:K.In s.heap:=e0.mod.kin.keeps λb o e=>(e0.bs b o e).1;have lim:s.heap.NoLimit:=e0.mod.nolimit.keeps λb o e=>(e0.bs b o e).1;have hkind:∀y∈ps.zip us,scope.names.lookup y.1=some .local∨(scope.names.lookup y.1=some .cell/\((cellsFrom (#v[0]+1) scope.names []).lookup y.1).isSome=true):=λ⟨n,v⟩ hy=>by
  rcases S.par n (Nq hy).1 with q|q
  ·exact .inl q
  ·exact .inr #[q,Ka _ _ _ (.inl q)]
 refine codeAny_call_function hr.depth (KX _ _ lk) rfl S.co S.gen rfl (PySem.W.codeRec_of KX hcd) (hb _ _ _ _ ?_);refine wpAny_newFunctionEnv_cells S.kind hkind λenv he s1 x=>?_;subst he;refine#[lim.keeps x.toInCall.keep,codeAny_func ?_];obtain⟨t,ht,hq⟩:=hbody A outer s H vs Q E (hr.deeper _) hsp;have I:Inv #v[79] [] (start N vs) H s1:=aKw S hr.hd e0 hl r x;refine Es (ht [] s1 (start N vs) H _ I hq) (λfl s' hs=>?_) λe s' hs=>hs;have fin:∀{σ':St}{H':Hp}{v:V}{u:Value},Inv #v[79] [] σ' H' s'->RelV v u->Q v H'->CE outer P w H s Q u s':=
  λ{σ' H' v u} J rv q=>#[v,H',J.os,J.bare,J.base,J.hok,rv,q]
 cases fl with
 |ret u=>
  obtain⟨v,σ',H',J,rv,q⟩:=hs;exact fin J rv q
 |next=>
  obtain⟨σ',H',J,q⟩:=hs;exact fin (v:=V.non) (u:=Bn) J rfl q
 |brk=>
  obtain⟨_,_,_,q⟩:=hs;exact Ft q
 |cont=>
  obtain⟨_,_,_,q⟩:=hs;exact Ft q
section
variable {X:Cx}{x:Str}{p pos:Pos}{e:Expr}{es:List Expr}{t:TA}{id T:String}{r:List V->Hp->VK->Prop}
def tCB(r:List V->Hp->VK->Prop)(t:TA):TE:=λσ H Q=>t σ H λvs H1=>r vs H1 Q
def iH(hc:dO X (.builtin id) r)(hg:Gl X x)(hm:X.mg x=none)(hv:bootBuiltins x=some (.builtin id))(ha:PA X (e::es) t)(hn:x≠"__name__":=by decide)(hdb:ND x:=by decide)
  (he:SE X e es:=by rfl) (hpl:BT X pos es:=by rfl):PE X #v[48] (tCB r t):=by
 intro pins s σ H Q I h;refine Fs (oU I hg hm hv ?_ hn hdb);exact Wi (thn #v[P] λus s1 ⟨vs,H1,I1,r1,q1⟩=>hc pins s1 σ H1 vs us Q I1 r1 q1) he hpl
def gO(hc:dO X (.type T) r)(hg:Gl X x)(hm:X.mg x=none)(hv:bootBuiltins x=some (.type T))(ha:PA X (e::es) t)(hn:x≠"__name__":=by decide)(hdb:ND x:=by decide)
  (he:SE X e es:=by rfl) (hpl:BT X pos es:=by rfl):PE X #v[48] (tCB r t):=by
 intro pins s σ H Q I h;refine Fs (oU I hg hm hv ?_ hn hdb);exact Dk (thn #v[P] λus s1 ⟨vs,H1,I1,r1,q1⟩=>hc pins s1 σ H1 vs us Q I1 r1 q1) he hpl
end
end L2
namespace HT
variable {Q:#v[7]}{lo hi:Option Int}
open PySem PyProof.Rows
section
open PySem.SeqAt
open PySem.AutoSeq1 (wpAny_loadPart')
open PySem.MeetsSeq PySem.MeetsSeq2 PySem.MeetsSeq3
end
variable {prog:Program}{w:World}{A:Around}{E:#v[7]}{s:Shared}
def aRt(ht:IsTup s.heap t vs.toArray)(hb:IsTup s.heap b ws.toArray)(hv:vs≠[])
  (h1:ws=[]->Q (.ref t) s) (h2:ws≠[]->Q #v[32] {s with heap:=s.heap.push {cls:=.type "tuple",data:=.seq (vs++ws).toArray}})
  (hsz:vs.length+ws.length<=sizeLine):#v[2] (binaryOp .Add (.ref t) (.ref b)) Q E s:=by
 obtain⟨⟨cls,dd,data,sl⟩,ho,hc,n,hd⟩:=id ht;obtain⟨⟨cls2,dd2,data2,sl2⟩,ho2,hc2,n2,hd2⟩:=id hb;simp only at hc hd hc2 hd2;subst hc hd hc2 hd2;have e:vs.toArray++ws.toArray=(vs++ws).toArray:=by simp
 by_cases hw:ws=[]
 ·exact Si #[_,ho,rfl] #[_,ho2,rfl] Ou Rg Kb Js (Jm _ _)
   (tuple_addW1 t b vs.toArray ws.toArray n n2 dd dd2 sl sl2 (by simpa using hv) (by simp[hw])) #[ho,ho2,h1 hw]
 ·refine Si #[_,ho,rfl] #[_,ho2,rfl] Ou Rg Kb Js (Jm _ _)
   (tuple_addW2 t b vs.toArray ws.toArray n n2 dd dd2 sl sl2 (by simpa using hv) (by simpa using hw) (by rw[Ak,Ak];exact hsz)) #[ho,ho2,?_]
  rw[e];exact h2 hw
def sIx(n d:Nat):Option Int->Nat
 |none=>d
 |some v=>if v<0 then(v+(n:Int)).toNat else min v.toNat n
def zX(n d:Nat):sIx n d none=d:=rfl
def yS(n d k:Nat):sIx n d (some (k:Int))=min k n:=by
 show(if(k:Int)<0 then((k:Int)+(n:Int)).toNat else min (k:Int).toNat n)=min k n;rw[if_neg ∅,Bw]
def aVh(n d:Nat)(hd:d<=n)(o:Option Int):sIx n d o<=n:=by
 cases o with
 |none=>exact hd
 |some v=>
  show(if v<0 then(v+(n:Int)).toNat else min v.toNat n)<=n;by_cases hv:v<0
  ·rw[if_pos hv];lia
  ·rw[if_neg hv];exact Nat.min_le_right _ _
def aI8(v:Int)(n d:Nat):(if v<0 then max (v+(n:Int)) 0 else min v (n:Int))=((sIx n d (some v):Nat):Int):=by
 show(if v<0 then max (v+(n:Int)) 0 else min v (n:Int))=(((if v<0 then(v+(n:Int)).toNat else min v.toNat n):Nat):Int);by_cases hv:v<0
 ·simp only[if_pos hv];lia
 ·simp only[if_neg hv];lia
def aIr(lo hi:Option Int)(n:Nat):Il lo hi 1 (n:Int)=(((sIx n 0 lo:Nat):Int),((sIx n n hi:Nat):Int)):=by
 have h1:¬((1:Int)<0):=by lia
 unfold Il;simp only[h1,if_false];refine Ng ?_ ?_
 ·cases lo with
  |none=>rfl
  |some v=>exact aI8 v n 0
 ·cases hi with
  |none=>rfl
  |some v=>exact aI8 v n n
def aIp(i j:Nat):Gk (i:Int) (j:Int) 1=j-i:=by
 unfold Gk;have h1:(1:Int)>0:=by lia
 simp only[h1,if_true,Int.ediv_one];split<;>lia
def aAs{Q:Option Int->Shared->Prop}(p:IsPart v o)(h:Q o s):#v[2] (Vw v) Q E s:=by
 cases p with
 |none=>exact slicePart_none h
 |int i t=>exact slicePart_int h
def wO{sl:Addr}{vl vu:Value}{n:Nat}{Q:Int×Int×Nat->Shared->Prop}(hs:s.heap.IsSliceOf sl vl vu .none)(pl:IsPart vl lo)(pu:IsPart vu hi)
  (h:Q (((sIx n 0 lo:Nat):Int),1,sIx n n hi-sIx n 0 lo) s):#v[2] (Lk (.ref sl) (pure (n:Int))) Q E s:=by
 obtain⟨os,hos,hcs,hds⟩:=id hs;unfold Lk Vx;refine Aa (Aa (De hos hds (x:=vl) rfl (Aa (De hos hds (x:=vu) rfl (Aa (De hos hds (x:=.none) rfl (Ac ?_)))))));refine Aa (slicePart_none ?_);show wpAny _ _ (if((1:Int)==0)=true then _ else _) _ _ s;rw[if_neg ⋯];refine Aa (aAs pl (Aa (aAs pu (Aa (Ac ?_)))));show wpAny _ _ (match Il lo hi 1 (n:Int)with|(lo,hi)=>pure (lo,(1:Int),Gk lo hi 1)) _ _ s;rw[aIr lo hi n];show wpAny _ _ (pure (((sIx n 0 lo:Nat):Int),(1:Int),Gk ((sIx n 0 lo:Nat):Int) ((sIx n n hi:Nat):Int) 1)) _ _ s;rw[aIp];exact Ac h
def aN2(xs:Array Value)(i k:Nat):((Bh k).filterMap λ(m:Nat)=>xs[((i:Int)+(m:Int)*1).toNat]?).toArray=((xs.toList.drop i).take k).toArray:=by
 have e:(λ(m:Nat)=>xs[((i:Int)+(m:Int)*1).toNat]?)=λm=>xs[i+m]? :=by
  funext m;have:((i:Int)+(m:Int)*1).toNat=i+m:=by lia
  rw[this]
 rw[e];have:=pick_run xs i k;rw[List.filterMap_map]at this;have e2:((λx=>xs[x]?)∘λx=>i+x)=λm=>xs[i+m]? :=rfl;rw[e2]at this;rw[this]
def uU{t sl:Addr}{items:Array Value}{vl vu:Value}(ht:IsTup s.heap t items)(hs:s.heap.IsSliceOf sl vl vu .none)(pl:IsPart vl lo)(pu:IsPart vu hi)
  (hw:¬(sIx items.size 0 lo=0/\sIx items.size items.size hi=items.size))
  (h:Q #v[32] {s with heap:=s.heap.push {cls:=.type "tuple",data:=.seq #v[F].toArray}})
  (hsz:items.size<=sizeLine):#v[2] (getItem (.ref t) (.ref sl)) Q E s:=by
 have htake:sizeOk (.seq #v[F].toArray):=by
  show#v[F].toArray.size<=sizeLine;rw[Ak,Eu,Ej,As]
  lia
 have hj:sIx items.size items.size hi<=items.size:=aVh _ _ (Aj _) hi;obtain⟨os,hos,hcs,hds⟩:=id hs;have hTs:s.TypeIs (.ref sl) "slice":=#[os,hos,hcs];unfold getItem
 try with_reducible refine Bq ?_
 first|refine Aa (Ac ?_)|skip
 refine Aa (wpAny_sequenceKey ht.typeIs ⋯ ?_);refine Aa (Cc (name:=Do "__getitem__") ht.typeIs Kq
  (Bl Kq ht.typeIs entry_tuple_getitem ?_ (args_tuple_getitem _ _)))
 show wpAny _ _ (Lj (.ref t)>>=_) _ _ s;refine Aa (tupleItemsOf_ ht ?_);refine Aa (Hj hTs ?_);rw[if_pos ⋯];refine Aa (wO hs pl pu ?_);have hno:¬((((sIx items.size 0 lo:Nat):Int)==0 && (1:Int)==1 && (sIx items.size items.size hi-sIx items.size 0 lo)==items.size)=true):=by
  intro q;rw[Ip,Ip]at q;have q1:((sIx items.size 0 lo:Nat):Int)=0:=eq_of_beq q.1.1;have q2:sIx items.size items.size hi-sIx items.size 0 lo=items.size:=eq_of_beq q.2;exact hw #[∅,∅]
 show wpAny _ _ (if(((sIx items.size 0 lo:Nat):Int)==0 && (1:Int)==1 && (sIx items.size items.size hi-sIx items.size 0 lo)==items.size)=true then _ else _) _ _ s;rw[if_neg hno,aN2];first
  |exact Aa (m:=Gu _) (Bp (Ac ⟨_,rfl,Ac h⟩) htake)
  |exact Aa (m:=Gu _) (Bp (Aa (Ac (Ac ⟨_,rfl,Ac h⟩))) htake)
  |exact Aa (Aa (m:=Gu _) (Bp (Ac (Ac ⟨_,rfl,Ac h⟩)) htake))
  |exact Aa (Aa (m:=Gu _) (Bp (Ac ⟨_,rfl,Ac h⟩) htake))
end HT
namespace L2
variable {pins:#v[8]}{its its':List Value}{s:Shared}{us:List Value}{α:Type}{n:Nat}
open PySem PySem.Spec PyProof.Rows
abbrev TO:=St->Hp->(Option Int->Hp->Prop)->Prop
def PO(X:Cx)(e:Option Expr)(t:TO):Prop:=
 ∀(pins:#v[8])(s:Shared)(σ:St)(H:Hp)(Q:Option Int->Hp->Prop),#v[4]->t σ H Q->
  #v[6] (evalPart e X.env) (λu s'=>∃o H',Inv X pins σ H' s'/\IsPart u o/\Q o H') X.xe s
def aSd:TO:=λ_ H Q=>Q none H
def bAt(t:TE):TO:=λσ H Q=>t σ H λx H1=>∃i,x=.int i/\Q (some i) H1
def intsAre_of:∀{us:List Value},Vals #v[M] us->IntsAre us ns:=by
 induction ns with
 |nil=>intro us r;rw[Fm]at r;cases r;exact .nil
 |cons n ns ih=>
  intro us r;rw[Ba]at r;cases r with
  |cons r1 r2=>
   obtain⟨t,e⟩:=r1;subst e;exact .cons n t (ih r2)
variable {X:Cx}{e:Expr}{te:TE}{lo hi:Option Expr}{tl th:TO}{pos p2:Pos}
def aSo:PO X none aSd:=by
 intro pins s σ H Q I h;rw[evalPart_none];exact Ac #[none,H,I,.none,h]
def aR9(h:PE X e te):PO X (some e) (bAt te):=by
 intro pins s σ H Q I hw;rw[evalPart_some];refine thn (h pins s σ H _ I hw) λu s1 ⟨x,H1,I1,r1,q1⟩=>?_;obtain⟨i,rfl,q⟩:=q1;obtain⟨t,rfl⟩:=r1;exact#[some i,H1,I1,.int i t,q]
def SlR(X:Cx)(r:V->Option Int->Option Int->Hp->VK->Prop):Prop:=
 ∀(pins:#v[8])(s:Shared)(σ:St)(H:Hp)(x:V)(v vl vu:Value)(lo hi:Option Int)(sl:Addr)(Q:VK),#v[4]->RelV x v->s.heap.IsSliceOf sl vl vu .none->IsPart vl lo->IsPart vu hi->r x lo hi H Q->
  ∃T id,typeLookup (.type T) "__getitem__"=pure (some (.builtin id))/\s.TypeIs v T/\#v[6] (getItem v (.ref sl)) #v[21] X.xe s
def SlR.or(h:SlR X r)(h':SlR X r'):SlR X (λx lo hi H Q=>r x lo hi H Q∨r' x lo hi H Q):=by
 intro pins s σ H x v vl vu lo hi sl Q I rx hs pl pu q;rcases q with q|q
 ·exact h pins s σ H x v vl vu lo hi sl Q I rx hs pl pu q
 ·exact h' pins s σ H x v vl vu lo hi sl Q I rx hs pl pu q
def tSl(r:V->Option Int->Option Int->Hp->VK->Prop)(te:TE)(tl th:TO):TE:=λσ H Q=>te σ H λx H1=>tl σ H1 λl H2=>th σ H2 λu H3=>r x l u H3 Q
def aF1{r:V->Option Int->Option Int->Hp->VK->Prop}(hr:SlR X r)(he:PE X e te)(hl:PO X lo tl)(hu:PO X hi th):PE X (.Subscript e (.Slice lo hi none p2) pos) (tSl r te tl th):=by
 intro pins s σ H Q I h;refine Vl (thn #v[47] λv s1 ⟨x,H1,I1,r1,q1⟩=>?_);refine wpAny_Slice (thn (hl pins s1 σ H1 _ I1 q1) λvl s2 ⟨l,H2,I2,pl,q2⟩=>thn (hu pins s2 σ H2 _ I2 q2) λvu s3 ⟨u,H3,I3,pu,q3⟩=>?_);rw[evalPart_none];refine Ac ?_;have I4:Inv X pins σ H3 {s3 with heap:=s3.heap.push {cls:=.type "slice",data:=.fields (List.toArray [vl,vu,.none])}}:=I3.kept (t':=s3.toks) λb ob q=>Ae _ q;obtain⟨T,id,hT,ht,hg⟩:=hr pins {s3 with heap:=s3.heap.push {cls:=.type "slice",data:=.fields (List.toArray [vl,vu,.none])}} σ H3 x v vl vu l u s3.heap.objs.size Q I4 r1 (Ut ..) pl pu q3;show #v[6] (subscriptTail e (.Slice lo hi none p2) v (.ref s3.heap.objs.size)) #v[21] X.xe {s3 with heap:=s3.heap.push {cls:=.type "slice",data:=.fields (List.toArray [vl,vu,.none])}};exact tail_any (ops:=[.ref s3.heap.objs.size,v]) ht hT hg (by with_unfolding_all rfl)
def aAh(xs:List V)(lo hi:Option Int):List V:=(xs.drop (HT.sIx xs.length 0 lo)).take (HT.sIx xs.length xs.length hi-HT.sIx xs.length 0 lo)
def xW(xs:List V)(lo hi:Option Int):(aAh xs lo hi).length<=xs.length:=by
 unfold aAh;rw[Eu,Ej]
 lia
inductive aUf(K:Ad)(x:V)(lo:Option Int)(hi:Option Int)(H:Hp)(Q:VK):Prop
 |mk (a xs:_) (q0_:x=.ref a) (q1_:SqT K H a xs) (q2_:¬(HT.sIx xs.length 0 lo=0/\HT.sIx xs.length xs.length hi=xs.length)) (q3_:∀p,H p=none->Q (.ref p) (upd H p (.tup (aAh xs lo hi)))):aUf K x lo hi H Q
def bBr(K:Ad):V->Option Int->Option Int->Hp->VK->Prop:=λx lo hi H Q=>aUf K x lo hi H Q
def aNw:SlR X (bBr X.K):=by
 intro pins s σ H x v vl vu lo hi sl Q I rx hs pl pu h;obtain⟨a,xs,rfl,hx,hw,q⟩:=h;cases rx;obtain⟨its,r,ht,hz⟩:=I.tuple hx;have hlen:its.toArray.size=xs.length:=by rw[Ak];exact r.length.symm
 refine#["tuple",_,PyProof.Rows.slot_tuple_getitem.lookup,ht.typeIs,?_];refine HT.uU ht hs pl pu (by rw[hlen];exact hw) ?_ (by rw[hlen];exact hz);rw[hlen];refine#[.ref #v[0],_,I.laid (t':=s.toks) (o:=.tup (aAh xs lo hi)) (λb ob q=>Ae _ q) (Aj _) ?_,rfl,q _ #v[G]];exact#[Ci (xW xs lo hi) hz,_,(r.drop (HT.sIx xs.length 0 lo)).take (HT.sIx xs.length xs.length hi-HT.sIx xs.length 0 lo),Sq _ _]
inductive aNb(K:Ad)(x:V)(y:V)(H:Hp)(Q:VK):Prop
 |mk (a b xs ys:_) (q0_:x=.ref a) (q1_:y=.ref b) (q2_:SqT K H a xs) (q3_:SqT K H b ys) (q4_:xs≠[]) (q5_:xs.length+ys.length<=sizeLine) (q6_:(ys=[]->Q (.ref a) H)) (q7_:(ys≠[]->∀p,H p=none->Q (.ref p) (upd H p (.tup (xs++ys))))):aNb K x y H Q
def aUm(K:Ad):R2:=λx y H Q=>aNb K x y H Q
def Vals.nil_iff(r:Vals xs us):us=[]↔xs=[]:=by
 cases r with
 |nil=>simp
 |cons _ _=>simp
def aRs:OpR X (binaryOp .Add) (aUm X.K):=by
 intro pins s σ H x y v u Q I rx ry h;obtain⟨a,b,xs,ys,rfl,rfl,ha,hb,hx,hz,q1,q2⟩:=h;cases rx;cases ry;obtain⟨its,r1,p1,_⟩:=I.tuple ha;obtain⟨its2,r2,p2,_⟩:=I.tuple hb;refine HT.aRt p1 p2 (λz=>hx (r1.nil_iff.mp z)) (λz=>#[.ref a,H,I,rfl,q1 (r2.nil_iff.mp z)]) (λz=>?_) (by rw[<-r1.length, <-r2.length];exact hz);refine#[.ref #v[0],_,I.laid (t':=s.toks) (o:=.tup (xs++ys)) (λb ob q=>Ae _ q) (Aj _) ?_,rfl,q2 (λw=>z (r2.nil_iff.mpr w)) _ #v[G]];exact#[by rw[Al];exact hz,_,r1.append r2,Sq _ _]
def ixN(n:Nat)(i:Int):Option Nat:=if 0<=i then(if i<n then some i.toNat else none)else if-(n:Int)<=i then some (i+n).toNat else none
def atI{α:Type}(xs:List α)(i:Int):Option α:=(ixN xs.length i).bind λj=>xs[j]?
def aI2(h:ixN n i=some j):seqIndex? i n=some j/\j<n/\ -(n:Int)<=i/\i<n:=by
 unfold ixN at h;by_cases h0:0<=i
 ·rw[if_pos h0]at h;by_cases h1:i<n
  ·rw[if_pos h1]at h;have e:i.toNat=j:=Bi h;exact#[by rw[Tt h0 h1,e],∅,∅,h1]
  ·rw[if_neg h1]at h;cases h
 ·rw[if_neg h0]at h;by_cases h1: -(n:Int)<=i
  ·rw[if_pos h1]at h;have e:(i+n).toNat=j:=Bi h;exact#[by rw[Sg ∅ h1,e],∅,h1,∅]
  ·rw[if_neg h1]at h;cases h
def aC7{xs:List α}{i:Int}{v:α}(h:atI xs i=some v):∃j,seqIndex? i xs.length=some j/\xs[j]? =some v/\j<xs.length/\ -(xs.length:Int)<=i/\i<xs.length:=by
 unfold atI at h;cases e:ixN xs.length i with
 |none=>rw[e]at h;cases h
 |some j=>
  rw[e]at h;obtain⟨h1,h2,h3,h4⟩:=aI2 e;exact#[j,h1,h,h2,h3,h4]
def bQ{xs:List α}{j:Nat}{v:α}(h:xs[j]? =some v):atI xs (j:Int)=some v:=by
 have hj:j<xs.length:=(List.getElem?_eq_some_iff.mp h).1;have e:ixN xs.length (j:Int)=some j:=by
  unfold ixN;rw[if_pos ∅,if_pos ∅];simp
 unfold atI;rw[e];exact h
def yQ(b:Expr):Prop:=∀o i,subscripted b false o i=operate [o,i] (getItem o i)
def IxR(X:Cx)(r:R2):Prop:=
 ∀(value slice:Expr)(pins:#v[8])(s:Shared)(σ:St)(H:Hp)(x y:V)(v u:Value)(Q:VK),#v[4]->RelV x v->RelV y u->r x y H Q->
  subscripted slice false v u=operate [v,u] (getItem v u)->#v[6] (subscriptTail value slice v u) #v[21] X.xe s
def MtR(X:Cx)(id:String)(r:V->List V->Hp->VK->Prop):Prop:=
 ∀(pins:#v[8])(s:Shared)(σ:St)(H:Hp)(x:V)(xs:List V)(v:Value)(us:List Value)(Q:VK),#v[4]->RelV x v->Vals xs us->r x xs H Q->
  #v[6] (call (.builtin id) (v::us)) #v[21] X.xe s
def aZr(K:Ad):List V->Hp->VK->Prop:=λxs H Q=>∃p ys,xs=[.ref p]/\(SqL K H p ys∨SqT K H p ys)/\Q (.int ys.length) H
def aYb(K:Ad):List V->Hp->VK->Prop:=λxs H Q=>∃p ys,xs=[.ref p]/\(SqL K H p ys∨SqT K H p ys)/\∀l,H l=none->Q (.ref l) (upd H l (.lst ys))
section
variable {X:Cx}{a b:Expr}{ta tb:TE}{pos:Pos}
def IxR.or(h:IxR X r)(h':IxR X r'):IxR X (λx y H Q=>r x y H Q∨r' x y H Q):=by
 intro value slice pins s σ H x y v u Q I rx ry q hs;rcases q with q|q
 ·exact h value slice pins s σ H x y v u Q I rx ry q hs
 ·exact h' value slice pins s σ H x y v u Q I rx ry q hs
def tR{r:R2}(hr:IxR X r)(ha:PE X a ta)(hb:PE X b tb)(hs:yQ b):PE X (.Subscript a b pos) (tOp r ta tb):=by
 intro pins s σ H Q I h;exact Vl (aWc ha hb I h λv u s2 x y H2 I2 rx ry q=>hr a b pins s2 σ H2 x y v u Q I2 rx ry q (hs _ _))
inductive aUz(K:Ad)(x:V)(y:V)(H:Hp)(Q:VK):Prop
 |mk (p xs i v:_) (q0_:x=.ref p) (q1_:y=.int i) (q2_:SqL K H p xs) (q3_:atI xs i=some v) (q4_:Q v H):aUz K x y H Q
def aWf(K:Ad):R2:=λx y H Q=>aUz K x y H Q
inductive aUs(K:Ad)(x:V)(y:V)(H:Hp)(Q:VK):Prop
 |mk (p xs i v:_) (q0_:x=.ref p) (q1_:y=.int i) (q2_:SqT K H p xs) (q3_:atI xs i=some v) (q4_:Q v H):aUs K x y H Q
def aXs(K:Ad):R2:=λx y H Q=>aUs K x y H Q
inductive aUl(x:V)(y:V)(H:Hp)(Q:VK):Prop
 |mk (z i c:_) (q0_:x=.str z) (q1_:y=.int i) (q2_:z.length<=sizeLine) (q3_:atI z.cps.toList i=some c) (q4_:Q (.str ⟨(List.toArray [c])⟩) H):aUl x y H Q
def bAl:R2:=λx y H Q=>aUl x y H Q
def lA:IxR X (aWf X.K):=by
 intro value slice pins s σ H x y v u Q I rx ry h hs;obtain⟨p,xs,i,z,rfl,rfl,hq,he,q⟩:=h;cases rx;obtain⟨t,rfl⟩:=ry;obtain⟨its,r,pl,hz⟩:=I.list hq;obtain⟨j,h1,h2,h3,h4,h5⟩:=aC7 he;obtain⟨w,ew,rw'⟩:=r.get h2;have hl:=r.length;have hn:=aAp;have fin:EP X pins σ Q w s:=#[z,H,I,rw',q];by_cases h0:0<=i
 ·have hj:i.toNat=j:=by
   rw[Tt h0 h5]at h1;exact Bi h1
  exact item_listR pl.isList h0 ∅ (by rw[hj];simpa using ew) fin hs
 ·have hj:(i+(its.toArray.size:Int)).toNat=j:=by
   rw[Sg ∅ h4]at h1;rw[Ak, <-hl];exact Bi h1
  exact Rw (x:=w) pl.isList.typeIs slot_list_getitem.lookup
   (wpAny_getItem_list_neg (Q:=λr s'=>r=w/\EP X pins σ Q r s') pl.isList ∅ (by rw[Ak]<;>lia) ∅ (by rw[hj];simpa using ew) #[rfl,fin]) hs
def aW4:IxR X (aXs X.K):=by
 intro value slice pins s σ H x y v u Q I rx ry h hs;obtain⟨p,xs,i,z,rfl,rfl,hq,he,q⟩:=h;cases rx;obtain⟨t,rfl⟩:=ry;obtain⟨its,r,pl,hz⟩:=I.tuple hq;obtain⟨j,h1,h2,h3,h4,h5⟩:=aC7 he;obtain⟨w,ew,rw'⟩:=r.get h2;have hl:=r.length;have hn:=aAp;have fin:EP X pins σ Q w s:=#[z,H,I,rw',q];exact Rw (x:=w) pl.typeIs slot_tuple_getitem.lookup
  (getItem_tuple (j:=j) (Q:=λr s'=>r=w/\EP X pins σ Q r s') pl ∅ ∅ (by rw[Ak, <-hl];exact h1) (by simpa using ew) #[rfl,fin]) hs
def aW0:IxR X bAl:=by
 intro value slice pins s σ H x y v u Q I rx ry h hs;obtain⟨z,i,c,rfl,rfl,hz,he,q⟩:=h;obtain⟨t,rfl⟩:=rx;obtain⟨t',rfl⟩:=ry;obtain⟨j,h1,h2,h3,h4,h5⟩:=aC7 he;have hl:z.cps.toList.length=z.length:=by simp[Str.length]
 rw[hl]at h1 h4 h5;have hn:=aAp;exact tail_any (typeIs_str s z t) slot_str_getitem.lookup (getItem_str (c:=c) (by
  have e1:decide (i< -(2 ^ 63:Int))=false:=decide_eq_false ∅;have e2:decide (i≥2 ^ 63)=false:=decide_eq_false ∅;rw[e1,e2,Va]) (by rw[h1];simpa using h2) #[.str #[(List.toArray [c])],H,I.tok _,#[_,rfl],q]) hs
def rIx(K:Ad):R2:=λx y H Q=>aWf K x y H Q∨aXs K x y H Q∨bAl x y H Q
def aY:IxR X (rIx X.K):=lA.or (aW4.or aW0)
def aHq(its:List Value)(n j:Nat)(u:Value):Dj (·.setIfInBounds j u) {cls:=.type "list",data:=.seq its.toArray n}={cls:=.type "list",data:=.seq (its.set j u).toArray n}:=by
 simp[Dj]
def Inv.lst{pins:#v[8]}{σ:St}{H:Hp}{s:Shared}{p:Addr}{xs:List V}(I:#v[4])(h:H p=some (.lst xs)):
  ∃(its:List Value)(n:Nat),Vals xs its/\s.heap.get? p=some {cls:=.type "list",data:=.seq its.toArray n}/\xs.length<=sizeLine:=by
 obtain⟨z,its,n,r,e⟩:=I.hok p _ h;exact#[its,n,r,e,z]
def Inv.lstUpd{σ:St}{H:Hp}{p:Addr}{xs ys:List V}{n n':Nat}{f:Obj->Obj}(I:#v[4])(h:H p=some (.lst xs))
  (ho:s.heap.get? p=some {cls:=.type "list",data:=.seq its.toArray n}) (hf:f {cls:=.type "list",data:=.seq its.toArray n}={cls:=.type "list",data:=.seq its'.toArray n'}) (r:Vals ys its') (hz:ys.length<=sizeLine) (t:Nat):
  Inv X pins σ (upd H p (.lst ys)) {s with heap:=s.heap.update p f,toks:=t}:=by
 have e:(s.heap.update p f).get? p=some {cls:=.type "list",data:=.seq its'.toArray n'}:=by
  rw[Bj f ho (by rw[hf]<;>rfl),hf]
 refine I.write (x:=p) (e:=p) (by rw[h];trivial) (.inl rfl) (λb u hb q=>#v[90].trans q) #[_,e] ?_;exact#[hz,its',n',r,e]
inductive aM2(o:V)(i:V)(v:V)(H:Hp)(Q:(Hp->Prop)):Prop
 |mk (p xs k j:_) (q0_:o=.ref p) (q1_:i=.int k) (q2_:H p=some (.lst xs)) (q3_:ixN xs.length k=some j) (q4_:Q (upd H p (.lst (xs.set j v)))):aM2 o i v H Q
def aX8:V->V->V->Hp->(Hp->Prop)->Prop:=λo i v H Q=>aM2 o i v H Q
def set_list:bAe X aX8:=by
 intro pins s σ H o i v ov iv u Q I ro ri rv h;obtain⟨p,xs,k,j,rfl,rfl,hp,hj,q⟩:=h;cases ro;obtain⟨t,rfl⟩:=ri;obtain⟨its,n,r,ho,hz⟩:=I.lst hp;obtain⟨h1,h2,h3,h4⟩:=aI2 hj;have hl:=r.length;have hn:=aAp;have I':Inv X pins σ (upd H p (.lst (xs.set j v))) {s with heap:=s.heap.update p (Dj (·.setIfInBounds j u))}:=
  I.lstUpd hp ho (aHq its n j u) (r.set rv j) (by rw[Bs];exact hz) s.toks
 by_cases h0:0<=k
 ·have hk:k.toNat=j:=by
   rw[Tt h0 h4]at h1;exact Bi h1
  exact PySem.W.ki_setAt ho h0 ∅ (by rw[Ak, <-hl];exact h4) (by rw[hk];exact#[_,I',q])
 ·have hk:(k+(its.toArray.size:Int)).toNat=j:=by
   rw[Sg ∅ h3]at h1;rw[Ak, <-hl];exact Bi h1
  exact PySem.W.ki_setBack ho ∅ (by rw[Ak, <-hl];exact h3) ∅ (by rw[hk];exact#[_,I',q])
def aEc(lo hi:Option Int)(n:Nat):(sliceBounds lo hi none n).1=((HT.sIx n 0 lo:Nat):Int)/\(sliceBounds lo hi none n).2.1=((HT.sIx n n hi:Nat):Int)/\(sliceBounds lo hi none n).2.2=1:=by
 refine#[?_,?_,rfl]
 ·cases lo with
  |none=>simp[sliceBounds,HT.sIx]
  |some i=>
   simp only[sliceBounds,HT.sIx,Rm,show(1:Int)>0 by decide,if_true];by_cases h:i<0
   ·simp only[h,if_true]<;>lia
   ·simp only[h,if_false]<;>lia
 ·cases hi with
  |none=>simp[sliceBounds,HT.sIx]
  |some i=>
   simp only[sliceBounds,HT.sIx,Rm,show(1:Int)>0 by decide,if_true];by_cases h:i<0
   ·simp only[h,if_true]<;>lia
   ·simp only[h,if_false]<;>lia
def aBr(its:List Value)(lo hi:Option Int):slicePick its.toArray lo hi none=((its.drop (HT.sIx its.length 0 lo)).take (HT.sIx its.length its.length hi-HT.sIx its.length 0 lo)).toArray:=by
 obtain⟨h1,h2,h3⟩:=aEc lo hi its.toArray.size;unfold slicePick;rw[h1,h2,h3];simp only[sliceRange_one,pick_run,Ak]<;>rfl
inductive aUu(K:Ad)(x:V)(lo:Option Int)(hi:Option Int)(H:Hp)(Q:VK):Prop
 |mk (a xs:_) (q0_:x=.ref a) (q1_:SqL K H a xs) (q2_:∀p,H p=none->Q (.ref p) (upd H p (.lst (aAh xs lo hi)))):aUu K x lo hi H Q
def bBm(K:Ad):V->Option Int->Option Int->Hp->VK->Prop:=λx lo hi H Q=>aUu K x lo hi H Q
def aJz:SlR X (bBm X.K):=by
 intro pins s σ H x v vl vu lo hi sl Q I rx hs pl pu h;obtain⟨a,xs,rfl,hx,q⟩:=h;cases rx;obtain⟨its,r,ht,hz⟩:=I.list hx;have hlen:=r.length;refine#["list",_,slot_list_getitem.lookup,ht.isList.typeIs,?_];refine wpAny_getItem_list_slice ht.isList hs pl pu .none (by simp) ?_ (by rw[Ak]<;>lia);rw[aBr, <-hlen];refine#[.ref #v[0],_,I.laid (t':=s.toks) (o:=.lst (aAh xs lo hi)) (λb ob q=>Ae _ q) (Aj _) ?_,rfl,q _ #v[G]];exact#[Ci (xW xs lo hi) hz,_,0,(r.drop (HT.sIx xs.length 0 lo)).take (HT.sIx xs.length xs.length hi-HT.sIx xs.length 0 lo),Ap _ rfl]
def rD:V->Bool
 |.non=>true
 |.bl _=>true
 |.int _=>true
 |.str _=>true
 |_=>false
def eqV:V->V->Bool
 |.non,.non=>true
 |.bl a,.bl b=>a==b
 |.bl a,.int b=>(if a then 1 else 0)==b
 |.int a,.bl b=>a==(if b then 1 else 0)
 |.int a,.int b=>a==b
 |.str a,.str b=>a==b
 |_,_=>false
def aVp(ry:RelV y u)(rx:RelV x v)(fy:rD y=true)(fx:rD x=true):Ko A s u v (eqV y x):=by
 cases y with
 |non=>
  cases ry;cases x with
  |non=>cases rx;exact Lx _
  |bl b=>cases rx;exact SeqAt.EqAt.none_bool b
  |int b=>obtain⟨t,rfl⟩:=rx;exact SeqAt.EqAt.none_int b t
  |str b=>obtain⟨t,rfl⟩:=rx;exact SeqAt.EqAt.none_str b t
  |_=>exact(An fx).elim
 |bl a=>
  cases ry;cases x with
  |non=>cases rx;exact SeqAt.EqAt.bool_none a
  |bl b=>cases rx;exact SeqAt.EqAt.bool_bool a b
  |int b=>obtain⟨t,rfl⟩:=rx;exact SeqAt.EqAt.bool_int a b t
  |str b=>obtain⟨t,rfl⟩:=rx;exact SeqAt.EqAt.bool_str a b t
  |_=>exact(An fx).elim
 |int a=>
  obtain⟨t',rfl⟩:=ry;cases x with
  |non=>cases rx;exact SeqAt.EqAt.int_none a t'
  |bl b=>cases rx;exact SeqAt.EqAt.int_bool a t' b
  |int b=>obtain⟨t,rfl⟩:=rx;exact SeqAt.EqAt.int_int a t' b t
  |str b=>obtain⟨t,rfl⟩:=rx;exact Ox a t' b t
  |_=>exact(An fx).elim
 |str a=>
  obtain⟨t',rfl⟩:=ry;cases x with
  |non=>cases rx;exact SeqAt.EqAt.str_none a t'
  |bl b=>cases rx;exact SeqAt.EqAt.str_bool a t' b
  |int b=>obtain⟨t,rfl⟩:=rx;exact Ov a t' b t
  |str b=>obtain⟨t,rfl⟩:=rx;exact SeqAt.EqAt.str_str a t' b t
  |_=>exact(An fx).elim
 |_=>exact(An fy).elim
def aK:dO X (.builtin "len") (aZr X.K):=by
 intro pins s σ H xs us Q I r h;obtain⟨p,ys,rfl,hq,q⟩:=h;obtain⟨u,rfl,rx⟩:=vals1 r;cases rx;have hn:=aAp;rcases hq with hq|hq
 ·obtain⟨its,r',pl,hz⟩:=I.list hq;have hlen:=r'.length;exact Calls.call_len_list pl.isList (by simp only[Ak]<;>lia) #[.int ys.length,H,I.tok _,#[s.toks+1,by rw[Ak,hlen]],q]
 ·obtain⟨its,r',pl,hz⟩:=I.tuple hq;have hlen:=r'.length;exact len_tuple pl (by simp only[Ak]<;>lia) #[.int ys.length,H,I.tok _,#[s.toks+1,by rw[Ak,hlen]],q]
def aC0:dO X (.type "list") (aYb X.K):=by
 intro pins s σ H xs us Q I r h;obtain⟨p,ys,rfl,hq,q⟩:=h;obtain⟨u,rfl,rx⟩:=vals1 r;cases rx;have fin:∀(its:List Value),Vals ys its->ys.length<=sizeLine->∀(h':Heap)(c':Nat),(∀b o',s.heap.get? b=some o'->h'.get? b=some o')->
   h'.get? #v[0]=some {cls:=.type "list",dict:=none,data:=.seq its.toArray c',slots:= (List.toArray [])}->EP X pins σ Q #v[32] {s with heap:=h'}:=λits r' hz h' c' kp e=>
  #[.ref #v[0],_,I.laid (t':=s.toks) kp (Aj _) (show bO X.prog X.w _ h' _ (.lst ys)from#[hz,its,c',r',e]),rfl,q _ #v[G]]
 rcases hq with hq|hq
 ·obtain⟨its,r',pl,hz⟩:=I.list hq;have hlen:=r'.length;obtain⟨o,ho,hc,n,hd⟩:=pl.isList;exact call_list_seq p (.inl rfl) ho hc hd (λh' c' kp e=>fin its r' hz h' c' kp e) (by simp only[Ak]<;>lia)
 ·obtain⟨its,r',pl,hz⟩:=I.tuple hq;have hlen:=r'.length;obtain⟨o,ho,hc,n,hd⟩:=pl;exact call_list_seq p (.inr rfl) ho hc hd (λh' c' kp e=>fin its r' hz h' c' kp e) (by simp only[Ak]<;>lia)
def aBm:dO X (.type "tuple") (λxs H Q=>∃p ys,xs=[.ref p]/\((SqL X.K H p ys/\∀l,H l=none->Q (.ref l) (upd H l (.tup ys)))∨(SqT X.K H p ys/\Q (.ref p) H))):=by
 intro pins s σ H xs us Q I r h;obtain⟨p,ys,rfl,h⟩:=h;obtain⟨u,rfl,rx⟩:=vals1 r;cases rx;rcases h with ⟨hq,q⟩|⟨hq,q⟩
 ·obtain⟨its,r',pl,hz⟩:=I.list hq;have hlen:=r'.length;refine call_tuple_list pl.isList (λh' kp=>?_) (by simp only[Ak]<;>lia);have I1:Inv X pins σ H {s with heap:=h'}:=I.kept (t':=s.toks) kp;have I2:Inv X pins σ (upd H h'.objs.size (.tup ys)) {s with heap:=h'.push {cls:=.type "tuple",data:=.seq its.toArray}}:=
   I1.laid (t':=s.toks) (λb o e=>Ae _ e) (Aj _) (show bO X.prog X.w _ _ _ (.tup ys)from#[hz,its,r',Sq _ _])
  exact#[.ref h'.objs.size,_,I2,rfl,q _ (I1.hok.fresh (Aj _))]
 ·obtain⟨its,r',pl,hz⟩:=I.tuple hq;exact call_tuple_same pl #[.ref p,H,I,rfl,q]
def tyV(K:Ad)(T:String)(x:V)(H:Hp):Prop:=match x with
 |.str _=>T="str"
 |.int _=>T="int"
 |.ref p=>(T="list"/\∃xs,SqL K H p xs)∨(T="tuple"/\∃o,K.lookup p=some o/\o.cls=.type "tuple"/\o.dict=none)∨
   (T="dict"/\((∃kvs,H p=some (.dK kvs))∨∃kvs,H p=some (.dT kvs)))∨(T="set"/\∃S n,H p=some (.set S n))
 |_=>False
def aV5(I:#v[4])(r:RelV x v)(ty:tyV X.K T x H):
  s.TypeIs v T/\∀a,v=.ref a->∃ob,s.heap.get? a=some ob/\ob.dict=none:=by
 cases x with
 |str z=>
  obtain⟨t,rfl⟩:=r;cases (show T="str" from ty);exact#[typeIs_str s z t,λ_ e=>nomatch e]
 |int i=>
  obtain⟨t,rfl⟩:=r;cases (show T="int" from ty);exact#[Vg s i t,λ_ e=>nomatch e]
 |ref p=>
  cases r;rcases ty with ⟨rfl,xs,hq⟩|⟨rfl,o,hk,hc,hd⟩|⟨rfl,hk⟩|⟨rfl,S,n,hk⟩
  ·obtain⟨its,_,pl,_⟩:=I.list hq;refine#[pl.isList.typeIs,λa e=>?_];cases e;obtain⟨o,n,e,c,hd,_⟩:=pl;exact#[o,e,hd]
  ·refine#[#[o,I.kIn p o hk,hc],λa e=>?_];cases e;exact#[o,I.kIn _ o hk,hd]
  ·have z:∃o,s.heap.get? p=some o/\o.ExactDict:=by
    rcases hk with ⟨kvs,hk⟩|⟨kvs,hk⟩
    ·obtain⟨_,_,_,_,o,_,_,e,ex,_⟩:=I.hok p _ hk;exact#[o,e,ex]
    ·obtain⟨_,_,_,_,o,_,_,e,ex,_⟩:=I.hok p _ hk;exact#[o,e,ex]
   obtain⟨o,e,ex⟩:=z;refine#[#[o,e,ex.1],λa e2=>?_];cases e2;exact#[o,e,ex.2.1]
  ·obtain⟨o,_,_,_,e,ex,_⟩:=I.hok p _ hk;refine#[#[o,e,ex.1],λa e2=>?_];cases e2;exact#[o,e,ex.2.1]
 |_=>exact Ft ty
def tBM(K:Ad)(T:String)(r:V->List V->Hp->VK->Prop)(to:TE)(t:TA):TE:=λσ H Q=>to σ H λx H1=>tyV K T x H1/\t σ H1 λxs H2=>r x xs H2 Q
variable {o e:Expr}{es:List Expr}{to:TE}{t:TA}{name:Str}{apos cpos:Pos}{T id:String}{r:V->List V->Hp->VK->Prop}
def aJ2(pa:PlainAttrs T)(slot:Slot T name id)(hty:typeOf (.builtin id)=pure (.type "method_descriptor"))(hm:MtR X id r)(ho:PE X o to)(ha:PA X (e::es) t)
  (hbase:attributeBase o name X.env (eval o X.env)=eval o X.env:=by rfl)
  (hfew:((backTo cpos (starEach (e::es) X.env)).all (λx=> !x.1) && (backToKw cpos #v[30]).all (λx=>x.1.isSome)
   && decide ((e::es).length+([]:List Keyword).length+(if([]:List Keyword).isEmpty then 0 else 1)<30))=true:=by rfl)
  (hline:EL apos cpos:=by rfl) (hs:SE X e es:=by rfl) (hplain:BT X cpos es:=by rfl):
  PE X (.Call (.Attribute o name apos) (e::es) [] cpos) (tBM X.K T r to t):=by
 intro pins s σ H Q I h;refine wpAny_Call_method_late hbase hfew hline rfl (thn (ho pins s σ H _ I h) λv s1 ⟨x,H1,I1,r1,ty,q1⟩=>?_);obtain⟨h1,h2⟩:=aV5 I1 r1 ty;refine#[T,id,pa,slot,hty,h1,h2,?_];have hA:=ha cpos pins s1 σ H1 _ I1 q1;rw[hs]at hA⊢;refine Pl (by show(false || (backTo cpos (starEach es X.env)).any (·.1))=false;rw[hplain]<;>rfl) (Calls.evalArgs_plain ?_);exact thn hA λus s2 ⟨vs,H2,I2,r2,q2⟩=>hm pins s2 σ H2 x vs v us Q I2 r1 r2 q2
end
def MtM(X:Cx)(id:String)(r:V->List V->Hp->VK->Prop):Prop:=
 ∀(pins:#v[8])(s:Shared)(σ:St)(H:Hp)(x:V)(xs:List V)(v:Value)(us:List Value)(Q:VK),#v[4]->RelV x v->Vals xs us->r x xs H Q->
  #v[6] (call (.builtin id) (v::us)) #v[21] X.xe s
def Vals.one:∀{x:V}{us:List Value},Vals [x] us->∃u,us=[u]/\RelV x u
 |_,_,.cons r .nil=>#[_,rfl,r]
def Vals.rep(h:Vals xs us):∀k:Nat,Vals (Az k xs).flatten (Az k us).flatten
 |0=> .nil
 |k+1=>by
  rw[Fe,Fe,Dd,Dd];exact Vals.append h (Vals.rep h k)
theorem foldl_rep(its:List Value):∀(k:Nat)(acc:List Value),
  Ry (λx1 x2=>x1++x2) acc.toArray (Az k its.toArray)=(acc++(Az k its).flatten).toArray
 |0,acc=>by simp
 |k+1,acc=>by
  have e:acc.toArray++its.toArray=(acc++its).toArray:=by simp
  have e2:(acc++its)++(Az k its).flatten=acc++(Az (k+1) its).flatten:=by
   rw[Fe,Dd,Ce]
  rw[<-e2, <-foldl_rep its k (acc++its), <-e,Fe,Jh]
variable {pins:#v[8]}{σ:St}{H:Hp}{s:Shared}{l b:Addr}{xs ys zs:List V}
def Inv.lset{f:Array Value->Array Value}{t':Nat}(I:#v[4])(hH:H l=some (.lst xs))
  (e:s.heap.get? l=some {cls:=.type "list",data:=.seq its.toArray n}) (hf:f its.toArray=its'.toArray) (hv:Vals ys its') (hz:ys.length<=sizeLine):
  Inv X pins σ (upd H l (.lst ys)) {s with heap:=s.heap.update l (Dj f),toks:=t'}:=by
 have q:=PySem.IsL.update e f;rw[hf]at q;refine I.write (x:=l) (e:=l) (by rw[hH];exact trivial) (.inl rfl) (λb' u hb hu=>(By s.heap (Dj f) (Cg hb)).trans hu) #[_,q] ?_;exact#[hz,its',_,hv,q]
def Inv.lnew{its:List Value}(I:#v[4])(hv:Vals ys its)(hz:ys.length<=sizeLine):
  Inv X pins σ (upd H #v[0] (.lst ys)) {s with heap:=s.heap.push {cls:=.type "list",data:=.seq its.toArray},toks:=t'}:=
 I.laid (λ_ _ q=>Ae _ q) (Aj _) #[hz,its,0,hv,Ap _ rfl]
def Inv.fresh(I:#v[4]):H #v[0]=none:=I.hok.fresh (Aj _)
def Inv.lstM(I:#v[4])(hH:H l=some (.lst xs)):xs.length<=sizeLine/\∃(its:List Value)(n:Nat),Vals xs its/\xs.length=its.length/\s.heap.get? l=some {cls:=.type "list",data:=.seq its.toArray n}:=by
 obtain⟨z,its,n,r,e⟩:=I.hok l _ hH;exact#[z,its,n,r,r.length,e]
def aFj(h:n<=sizeLine):Gw n=false:=by
 unfold Gw;exact decide_eq_false ∅
inductive aEj(x:V)(vs:List V)(H:Hp)(Q:VK):Prop
 |mk (l xs y:_) (q0_:x=.ref l) (q1_:vs=[y]) (q2_:H l=some (.lst xs)) (q3_:xs.length<sizeLine) (q4_:Q .non (upd H l (.lst (xs++[y])))):aEj x vs H Q
def aSj:V->List V->Hp->VK->Prop:=λx vs H Q=>aEj x vs H Q
def xN:MtM X "list.append" aSj:=by
 intro pins s σ H x vs v us Q I rx rv h;obtain⟨l,xs,y,rfl,rfl,hH,hz,q⟩:=h;cases rx;obtain⟨u,rfl,ru⟩:=rv.one;obtain⟨z,its,n,r,hl,e⟩:=I.lstM hH;refine Lv F.slot_list_append #[_,e,rfl] F.entry_list_append (F.args_list_append_2 _ _) (PySem.list_append l its.toArray n u (by rw[Ak];lia)) #[e,?_];refine#[.non,_,I.lset (its':=its++[u]) hH e (by simp) (r.append (.cons ru .nil)) ?_,rfl,q];rw[Al,Dg]
 lia
inductive aFb(x:V)(vs:List V)(H:Hp)(Q:VK):Prop
 |mk (l b xs zs:_) (q0_:x=.ref l) (q1_:vs=[.ref b]) (q2_:H l=some (.lst xs)) (q3_:H b=some (.lst zs)) (q4_:xs.length+zs.length<=sizeLine) (q5_:Q .non (upd H l (.lst (xs++zs)))):aFb x vs H Q
def aTg:V->List V->Hp->VK->Prop:=λx vs H Q=>aFb x vs H Q
def aKt:MtM X "list.extend" aTg:=by
 intro pins s σ H x vs v us Q I rx rv h;obtain⟨l,b,xs,zs,rfl,rfl,hH,hB,hz,q⟩:=h;cases rx;obtain⟨u,rfl,ru⟩:=rv.one;cases ru;obtain⟨z,its,n,r,hl,e⟩:=I.lstM hH;obtain⟨z2,its2,n2,r2,hl2,e2⟩:=I.lstM hB;have hsz:its.toArray.size+its2.toArray.size<=sizeLine:=by rw[Ak,Ak];lia
 have hlong:¬(!its.toArray.isEmpty && Gw (its.toArray.size+its2.toArray.size))=true:=by
  rw[aFj hsz,Hq];exact An
 refine Lv F.slot_list_extend #[_,e,rfl] F.entry_list_extend (F.args_list_extend_2 _ _)
  (AutoSeq1.list_extend_list_list_0 l its.toArray n b its2.toArray n2 hlong (by rw[Ak];lia) ∅) #[e,e2,?_]
 refine#[.non,_,I.lset (its':=its++its2) hH e (by simp) (r.append r2) ?_,rfl,q];rw[Al]
 lia
inductive aUa(x:V)(y:V)(H:Hp)(Q:VK):Prop
 |mk (l b xs zs:_) (q0_:x=.ref l) (q1_:y=.ref b) (q2_:H l=some (.lst xs)) (q3_:H b=some (.lst zs)) (q4_:xs.length+zs.length<=sizeLine) (q5_:∀p,H p=none->Q (.ref p) (upd H p (.lst (xs++zs)))):aUa x y H Q
def aZm:R2:=λx y H Q=>aUa x y H Q
def aXm:OpR X (binaryOp .Add) aZm:=by
 intro pins s σ H x y v u Q I rx ry h;obtain⟨l,b,xs,zs,rfl,rfl,hH,hB,hz,q⟩:=h;cases rx;cases ry;obtain⟨z,its,n,r,hl,e⟩:=I.lstM hH;obtain⟨z2,its2,n2,r2,hl2,e2⟩:=I.lstM hB;refine PySem.P.add_list e e2 ?_ (by rw[Ak,Ak];lia);have ea:its.toArray++its2.toArray=(its++its2).toArray:=by simp
 rw[ea];exact#[.ref _,_,I.lnew (t':=s.toks) (r.append r2) (by rw[Al];lia),rfl,q _ I.fresh]
inductive aU2(x:V)(y:V)(H:Hp)(Q:VK):Prop
 |mk (l k xs:_) (q0_:x=.ref l) (q1_:y=.int k) (q2_:H l=some (.lst xs)) (q3_: -(2 ^ 63)<=k) (q4_:k<2 ^ 63) (q5_:xs.length*k.toNat<=sizeLine) (q6_:∀p,H p=none->Q (.ref p) (upd H p (.lst (Az k.toNat xs).flatten))):aU2 x y H Q
def aZd:R2:=λx y H Q=>aU2 x y H Q
def len_rep(xs:List α)(k:Nat):(Az k xs).flatten.length=k*xs.length:=by
 induction k with
 |zero=>simp
 |succ k ih=>rw[Fe,Dd,Al,ih,Nat.succ_mul,Qq]
def aMt:OpR X (binaryOp .Mult) aZd:=by
 intro pins s σ H x y v u Q I rx ry h;obtain⟨l,k,xs,rfl,rfl,hH,h1,h2,hz,q⟩:=h;cases rx;obtain⟨t,rfl⟩:=ry;obtain⟨z,its,n,r,hl,e⟩:=I.lstM hH;have hlen:its.toArray.size*k.toNat<=sizeLine:=by rw[Ak, <-hl];exact hz
 have hcap:¬its.toArray.size*k.toNat>(2 ^ 63-1) / 8:=by
  have:(sizeLine:Nat)<=(2 ^ 63-1) / 8:=by decide
  lia
 have hfit:¬(!Gh k)=true:=by
  rw[fitsIndex_both h1 h2];exact An
 have hlong:¬Gw (its.toArray.size*k.toNat)=true:=by
  rw[aFj hlen];exact An
 have hnew:Ry (λx1 x2=>x1++x2) (List.toArray []) (Az (if its.toArray.isEmpty=true then 0 else k.toNat) its.toArray)=(Az k.toNat its).flatten.toArray:=by
  have f0:∀m:Nat,Ry (λx1 x2=>x1++x2) (List.toArray []) (Az m its.toArray)=(Az m its).flatten.toArray:=λm=>by
   have:=foldl_rep its m [];rw[Bd]at this;exact this
  rw[f0];cases its with
  |nil=>simp
  |cons a r'=>rw[if_neg (by simp)]
 refine wpAny_binaryOp_repeat_ref (T:="list") (U:="int") ⋯ #[_,e,rfl] (λs'=>Vg s' k t) noFill_list_mul F.fills_int_mul Vt repeat_list F.slot_int_index.lookup
  (Lv Vt (Vg s k t) F.entry_int_rmul (F.args_int_rmul_2 _ _) (int___rmul___int_list k t l its.toArray n)
   #[e,rfl,#[_,e,rfl],Lv F.slot_list_mul #[_,e,rfl] F.entry_list_mul (F.args_list_mul_2 _ _) (AutoListH.list___mul___list_int_3 l its.toArray n k t hfit hcap hlong) #[e,?_]])
 rw[hnew];exact#[.ref _,_,I.lnew (t':=s.toks) (r.rep k.toNat) (by rw[len_rep,Wk];exact hz),rfl,q _ I.fresh]
variable {prog:Program}{w:World}{A:Around}{E:#v[7]}
end L2
namespace Att
open PySem PySem.W PySem.Calls PyProof.Rows
def yI:∀(ns:List Int)(vs:List Value),WellAll P h vs (ns.map Xf)->IntsAre vs ns:=by
 intro ns;induction ns with
 |nil=>
  intro vs w;rw[Fm]at w;cases w;exact .nil
 |cons n ns ih=>
  intro vs w;rw[Ba]at w;cases w with
  |cons a b=>
   cases a;exact .cons _ _ (ih _ b)
def aL1{l:OpenLaw}{n:Nat}(hn:l.most=some n){P:Params}{h:Heap}{args:List WData}{vals:List Value}
  (hpre:l.row.toRowW.claim.pre args=true) (hwl:WellAll P h vals args):
  ∃a vs ns,vals=[Ao a]/\args=[WData.list (ns.map Xf)]/\h.get? a=some {cls:=.type "list",data:=.seq vs.toArray}/\IntsAre vs ns/\ns.length<=n:=by
 have hsh:WShape.hasAll [] args [.list .int]=true:=(pre_splitW hpre).1;have hc:l.pre.holds [] {args:=args}=true:=(pre_splitW hpre).2;obtain⟨d,r,rfl,h1,h2⟩:=hasAllW_cons hsh;obtain rfl:=hasAllW_nil h2;obtain⟨xs,rfl,h3⟩:=hasW_list h1;obtain⟨ns,rfl⟩:=items_int h3;have hlen:ns.length<=n:=by
  unfold OpenLaw.pre at hc;have h4:(WTm.not (.lt (.lit (.int (n:Int))) (.len (.arg 0)))).holds [] {args:=[.list (ns.map .int)]}=true:=by
   have h4:=(holds_andW hc).1;rw[hn]at h4;exact h4
  have h5:=condW_of h4 (w_not (w_lt w_lit (w_len_list (w_arg rfl))));rw[Ab]at h5;refine Nat.le_of_not_lt λq=>?_;have q':(n:Int)<((ns.length:Nat):Int):=by lia
  first
   |(rw[decide_eq_true q']at h5;exact absurd h5 ⋯)
   |(simp at h5;lia)
 cases hwl with
 |cons w1 w2=>
  cases w2;cases w1 with
  |list ho hall=>exact#[_,_,ns,rfl,rfl,ho,yI ns _ hall,hlen]
def aKm(l:OpenLaw)(args:List WData):l.row.toRowW.claim.post args (.bool true) args=true:=
 postW_of (r:=l.row.toRowW) (X:=(true==true))
  (show Vj [] (.bool true) .bool=true by first|rfl|decide|simp[Vj,WShape.arms,WShape.armsAll])
  (show(WTm.eq .res (.lit (.bool true))).value [] {args:=args,res:=some (.bool true),after:=args}=some (.bool (true==true))from w_eq_bool (w_res rfl) w_lit) rfl
def aEq{l:OpenLaw}{n:Nat}{q:Program}{loose:List Str}{XP:(Str->#v[12])->Heap->Prop}{YP:World->Heap->Prop}{d:DefRec}
  (hn:l.most=some n) (hdf:d.params.defaults=[])
  (call:∀(w:World)(s₀ s₁:Shared)(mg mb:Str->#v[12])(fa:Addr)(o:Obj)(pm cd doc:Value)(a:Addr)(vs:List Value)(ns:List Int),
   Ground q loose [] XP w s₀ mg mb s₁.heap->YP w s₁.heap->
   s₁.heap.get? fa=some o->o.data=.func (docDef d.name d.params d.body d.scope pm cd doc)->s₁.heap.CodeRec cd d.name->mg d.name=some (.ref fa)->
   s₁.heap.get? a=some {cls:=.type "list",data:=.seq vs.toArray}->IntsAre vs ns->ns.length<=n->s₁.gens= (List.toArray [])->
   codeAny (model l.prog w) callerA (.call (.ref fa) #[[.ref a],[]]) (λr s'=>r=.ok (.ret (.bool true))/\OldK s₁.heap s'.heap/\s'.os=s₁.os/\AllBare s'.gens) s₁):
  WalkO q loose XP YP l.row.toRowW d [] (λf vs=>Rk f vs):=by
 intro w s₀ s₁ mg mb G Y fa o pm cd doc dV kV ho hd hcd hD hmg hg args vals as hpre hlay hrd hwl hlo;obtain rfl:dV=.none:=Dflts.none hD hdf;obtain rfl:kV=.none:=Dflts.noKw hD;obtain⟨a,vs,ns,rfl,rfl,hobj,hints,hlen⟩:=aL1 hn hpre hwl;refine enter_call (Kc (call w s₀ s₁ mg mb fa o pm cd doc a vs ns G Y ho (fd_plain hd) hcd hmg hobj hints hlen hg) λr s' hq=>?_);obtain⟨rfl,h2,h3,h4⟩:=hq;exact#[.inl #[.bool true,.bool true,[],rfl,λ_=>rfl,.bool true,aKm l _,λ_=>#[Oc,λ_ hm=>(nomatch hm)]],h2,h3,h4]
variable {prog:Program}{w:World}{A:Around}{E:#v[7]}{s:Shared}{K:Frag}
end Att
namespace L2
variable {fd:FuncData}{x qual:Str}{f:Addr}
open PySem PySem.Spec PyProof.Rows
theorem aBt:∀{vs:List Value}{ns:List Int},IntsAre vs ns->Vals #v[M] vs
 |_,_,.nil=> .nil
 |_,_,.cons n t h=> .cons #[t,rfl] (aBt h)
def Only(H:Hp):Prop:=∀b,H b=none∨∃o xs,H b=some (.frz o (.lst xs))
def aO3{P:Program}{w:World}{K:Ad}{mg mb:Str->#v[12]}{CX:CXT}{k:Nat}{fa a:Addr}{x:Str}{sp:Sp}{s₁:Shared}{vs:List Value}{ns:List Int}
  (KX:K.In s₁.heap) (hns:s₁.heap.Ns mainGlobals mg) (hb:s₁.heap.Ns builtinsNs mb) (hbb:∀x:Str,x≠"__name__"->mb x=bootBuiltins x) (hlim:s₁.heap.NoLimit) (hg:s₁.gens= (List.toArray []))
  (ha:s₁.heap.get? a=some {cls:=.type "list",data:=.seq vs.toArray}) (hi:IntsAre vs ns) (hl:ns.length<=sizeLine) (hr:eY k callerA)
  (F:∀base:Heap,K.In base->base.Ns mainGlobals mg->bJ P w K mg base CX k fa fd [x] sp) (hbind:∀(s:Shared)(u:Value),BindsTo s fd #[[u],[]] [(x,u)])
  (hsp:∀H:Hp,Only H->SqL K H a #v[M]->sp [.ref a] H (λv _=>v=.bl true) λ_ _ _=>False)
  (hCX:∀H e s',CX [] H s₁ (λ_ _ _=>False) e s'->False):
  codeAny (model P w) callerA (.call (.ref fa) #[[.ref a],[]]) (λr s'=>r=.ok (.ret (.bool true))/\OldK s₁.heap s'.heap/\s'.os=s₁.os/\AllBare s'.gens) s₁:=by
 have rv:=aBt hi;have lenV:=hi.length;have core:∀H:Hp,Only H->SqL K H a #v[M]->HOk P w H s₁.heap->(∀b,H b≠none->b=a)->(H a≠none->K.lookup a=none)->
   codeAny (model P w) callerA (.call (.ref fa) #[[.ref a],[]]) (λr s'=>r=.ok (.ret (.bool true))/\OldK s₁.heap s'.heap/\s'.os=s₁.os/\AllBare s'.gens) s₁:=by
  intro H hO hS hok hA hK;have base_of:∀{b:Addr}{o:Obj},s₁.heap.get? b=some o->H b=none->(aCv s₁.heap H).get? b=some o:=λe n=>aQd e n;have noA:∀{b:Addr}{o:Obj}{es:Array DictEntry}{ep:Nat},s₁.heap.get? b=some o->o.data=.dict es ep->H b=none:=λ{b o es ep} e d=>by
   cases q:H b with
   |none=>rfl
   |some u=>
    have e':b=a:=hA b (by rw[q];simp);subst e';rw[ha]at e;cases e;have d':Uy vs.toArray _=Data.dict es ep:=d;cases d'
  have nsK:∀{b:Addr}{m:Str->#v[12]},s₁.heap.Ns b m->(aCv s₁.heap H).Ns b m:=λ{b m} ⟨o,es,ep,e,d,r⟩=>#[o,es,ep,base_of e (noA e d),d,r];have hKb:K.In (aCv s₁.heap H):=λb o e=>base_of (KX b o e) (by
   cases q:H b with
   |none=>rfl
   |some u=>
    have e':b=a:=hA b (by rw[q];simp);subst e';rw[hK (by rw[q];simp)]at e;cases e)
  have hM:Mod K mg (aCv s₁.heap H):=#[hKb,nsK hns,#[mb,nsK hb,hbb],let⟨mc,h1,h2⟩:=hlim;#[mc,nsK h1,h2]];have e0:aHx P w K mg (aCv s₁.heap H) callerA [] s₁ H:=#[rfl,hM,λb o e=>aTd e,Qp (aJ7 _ _),trivial,λb hb=>absurd (show b∈([]:List Addr)from hb) (by simp),hok,.of_eq hg];refine Kc ((F _ hKb (nsK hns)).run callerA [] s₁ H #[[.ref a],[]] [.ref a] [.ref a] _ _ hr e0 (hbind s₁ (.ref a)) (.cons rfl .nil) (hsp H hO hS)) λr s' h=>?_;cases r with
  |error e=>exact(hCX H e s' h).elim
  |ok fl=>
   cases fl with
   |next=>exact Ft h
   |brk=>exact Ft h
   |cont=>exact Ft h
   |ret u=>
    obtain⟨v,H',os,bare,un,hok',r',q⟩:=h;have q':v=.bl true:=q;subst q';obtain rfl:u=Jr true:=r';refine#[rfl,OldK.of_keep λb o e=>?_,os,bare];cases q:H b with
    |none=>exact un.keep b o e q (by intro z;exact absurd (show b∈([]:List Addr)from z) (by simp)) (by simp)
    |some u=>
     rcases hO b with z|⟨ob,xs,z⟩
     ·rw[q]at z;cases z
     ·have z2:=un.frzs b ob _ z;obtain⟨e1,_⟩:=hok b _ z;obtain⟨e2,_⟩:=hok' b _ z2;rw[e]at e1;cases e1;exact e2
 cases hk:K.lookup a with
 |some o=>
  have e:=KX a o hk;rw[ha]at e;cases e;refine core (λ_=>none) (λ_=> .inl rfl) (.inr #[_,vs.toArray,_,hk,rfl,rfl,rfl,by rw[Ak,lenV];exact hl,by simpa using rv]) (λb u z=>by have z':(none:Option HO)=some u:=z;cases z') (λb z=>absurd rfl z) λz=>absurd rfl z
 |none=>
  refine core (λb=>if b=a then some (.frz {cls:=.type "list",data:=.seq vs.toArray} (.lst #v[M]))else none) (λb=>?_) (.inl (.inr #[{cls:=.type "list",data:=.seq vs.toArray},if_pos rfl])) (λb u z=>?_) (λb z=>?_) λ_=>hk
  ·by_cases hb:b=a
   ·exact .inr #[_,_,if_pos hb]
   ·exact .inl (if_neg hb)
  ·by_cases hb:b=a
   ·have z':=(if_pos hb).symm.trans z;cases z';subst hb;exact#[ha,by rw[Ab];exact hl,vs,_,rv,ha]
   ·have z':=(if_neg hb).symm.trans z;cases z'
  ·by_cases hb:b=a
   ·exact hb
   ·exact absurd (if_neg hb) z
def aR0{l:PySem.W.OpenLaw}{n k:Nat}{q:Program}{loose:List Str}{XP:(Str->#v[12])->Heap->Prop}{YP:World->Heap->Prop}{d:DefRec}{K:Params->Ad}{CX:World->CXT}{sp:World->Sp}{x:Str}
  (hn:l.most=some n) (hn2:n<=sizeLine) (hdf:d.params.defaults=[]) (hr:eY k callerA)
  (hY:∀(w:World)(h:Heap),YP w h->(K w.params).In h)
  (F:∀(w:World)(mg:Str->#v[12])(fa:Addr)(h:Heap),(K w.params).In h->h.Ns mainGlobals mg->mg d.name=some (.ref fa)->
   ∃fd:FuncData,(∀(s:Shared)(u:Value),BindsTo s fd #[[u],[]] [(x,u)])/\
    ∀base:Heap,(K w.params).In base->base.Ns mainGlobals mg->bJ l.prog w (K w.params) mg base (CX w) k fa fd [x] (sp w))
  (hsp:∀(w:World)(H:Hp)(a:Addr)(ns:List Int),ns.length<=n->Only H->SqL (K w.params) H a #v[M]->sp w [.ref a] H (λv _=>v=.bl true) λ_ _ _=>False)
  (hCX:∀(w:World)(H:Hp)(s:Shared)(e:Value)(s':Shared),CX w [] H s (λ_ _ _=>False) e s'->False):
  PySem.W.WalkO q loose XP YP l.row.toRowW d [] (λf vs=>Rk f vs):=by
 refine Att.aEq hn hdf λw s₀ s₁ mg mb fa o pm cd doc a vs ns G Y ho hd hcd hmg hobj hints hlen hg=>?_;have KX:=hY w _ Y;obtain⟨fd,hb,hF⟩:=F w mg fa _ KX G.T.g hmg;exact aO3 KX G.T.g G.T.b G.T.builtins G.T.nolimit hg hobj hints (Ci hlen hn2) hr hF hb (λH hO hS=>hsp w H a ns hlen hO hS) λH e s'=>hCX w H s₁ e s'
def inClass(s:Stmt)(j:Nat):Stmt:=match s with
 |.ClassDef _ _ _ body _ _ _ _ _ _ _=>body.getD j (.Pass #[0,0,0,0])
 |_=> .Pass #[0,0,0,0]
def jP(s:Stmt):Arguments:=match s with
 |.FunctionDef _ a _ _ _ _ _ _ _ _=>a
 |_=>{posonlyargs:=[],args:=[],vararg:=none,kwonlyargs:=[],kw_defaults:=[],kwarg:=none,defaults:=[]}
def gM(s:Stmt):List Stmt:=match s with
 |.FunctionDef _ _ b _ _ _ _ _ _ _=>b
 |_=>[]
def aC(s:Stmt):Scope:=match s with
 |.FunctionDef _ _ _ _ _ _ sc _ _ _=>sc
 |_=>{kind:=.function,names:=[],isGenerator:=false,isCoroutine:=false}
abbrev CX0:CXT:=λ_ _ _ _ _ _=>False
abbrev E0:XK:=λ_ _ _=>False
def aB4:sH CX0 X E0:=λ_ _ _ _ _ _ _ h=>h.elim
structure Fun(K:Ad)(x qual:Str)(st:Stmt)(f:Addr)(fd:FuncData):Prop where
 ex:∃(oc:Value)(od:Option Addr)(kV doc pm:Value)(an:Option Addr)(cdv ct:Value)(osl:Array (#v[12])),
  fd=Ex x qual (jP st) (gM st) (aC st) .none kV doc pm an cdv ct/\K.lookup f=some #[oc,od,.func fd,osl]/\Nd K cdv qual=true
 kp:Hc K (.ref f)=true
variable {P:Program}{w:World}{K:Ad}{mg:Str->#v[12]}{base:Heap}
def Fun.ok{st:Stmt}{N ps:List Str}{k:Nat}{sp:Sp}(F:Fun K x qual st f fd)(S:aQ N ps (aC st))(len:∀vs H Q E,sp vs H Q E->vs.length=ps.length)
  (hbody:∀(cdv:Value)(A:Around)(outer:List Env)(s:Shared)(H:Hp)(vs:List V)(Q:VK)(E:XK),eY k (A.deeper (envOfC qual (aC st) #v[0] f cdv))->sp vs H Q E->
   ∃t,PSs (aIt CX0 P w K mg base N qual (aC st) f cdv A outer s H E).nox (gM st) t/\t {nx:=λ_ H'=>Q .non H',rt:=Q} (start N vs) H):↥(k+1) f fd ps sp:=by
 obtain⟨oc,od,kV,doc,pm,an,cdv,ct,osl,rfl,lk,hcd⟩:=F.ex;refine aYn lk hcd S len λA outer s H vs Q E hr hsp=>?_;obtain⟨t,h,q⟩:=hbody cdv A outer s H vs Q E hr hsp;exact#[t,h.nox,q]
def Fun.binds{st:Stmt}{ps:List Str}(F:Fun K x qual st f fd)
  (h:∀(kV doc pm:Value)(an:Option Addr)(cdv ct:Value)(us:List Value),us.length=ps.length->bindArgs #v[55] #[us,[]]=pure (ps.zip us)):Binds K fd ps []:=by
 obtain⟨oc,od,kV,doc,pm,an,cdv,ct,osl,rfl,lk,hcd⟩:=F.ex;exact .all (h kV doc pm an cdv ct)
def aO4{st:Stmt}{oc:Value}{od an:Option Addr}{osl:Array (#v[12])}{kV doc pm cdv ct:Value}(l:K.lookup f=some #[oc,od,.func #v[55],osl])
  (c:Nd K cdv qual=true) (k:Hc K (.ref f)=true):Fun K x qual st f #v[55]:=#[#[oc,od,kV,doc,pm,an,cdv,ct,osl,rfl,l,c],k]
variable {X:Cx}
def pv(i:Nat){x:Str}(hN:X.N[i]? =some x:=by rfl)(hv:#v[80]:=by trivial)(hd:ND x:=by decide)
  (hcd:NC x:=by decide):PE X (.Name x pos) (bAh i):=pA hN hv hd hcd
def rG{A B:Prop}(h:B):if false=true then A else B:=by
 rw[if_neg An];exact h
def aEe{A B:Prop}(h:A):if true=true then A else B:=by
 rw[if_pos rfl];exact h
def bCa{c A B:Prop} [Decidable c](h1:c->A)(h2:¬c->B):if c then A else B:=by
 by_cases h:c
 ·rw[if_pos h];exact h1 h
 ·rw[if_neg h];exact h2 h
def bAk(H H':Hp):Prop:=∀b o,H b=some o->H' b=some o
end L2
set_option maxHeartbeats 4000000
namespace L2
variable {kvs:List (List Key×V)}{xs:List (List Key×Addr×Value)}{Q:#v[7]}{u:Value}{y:V}
open PySem PySem.Spec PyProof.Rows
section
variable {κ:Type} [DecidableEq κ]
def lJ(kvs:List (κ×V))(k:κ):Option V:=(kvs.find? λkv=>decide (kv.1=k)).map (·.2)
def putK(kvs:List (κ×V))(k:κ)(v:V):List (κ×V):=
 if(kvs.any λkv=>decide (kv.1=k))=true then kvs.map (λkv=>if kv.1=k then(kv.1,v)else kv)else kvs++[(k,v)]
def gB{p:κ×V}{r:List (κ×V)}{k:κ}(e:p.1=k):lJ (p::r) k=some p.2:=by simp[lJ,Gr,e]
def fY{p:κ×V}{r:List (κ×V)}{k:κ}(e:¬p.1=k):lJ (p::r) k=lJ r k:=by simp[lJ,Gr,e]
theorem vO(k:κ):∀kvs:List (κ×V),(kvs.any λkv=>decide (kv.1=k))=(lJ kvs k).isSome
 | []=>rfl
 |p::r=>by
  rw[Hz];by_cases e:p.1=k
  ·simp only[gB e,decide_eq_true e,Bool.true_or,Qm]
  ·rw[fY e,decide_eq_false e,Bool.false_or];exact vO k r
theorem aGk(k j:κ)(y:V):∀kvs:List (κ×V),lJ (kvs.map λkv=>if kv.1=k then(kv.1,y)else kv) j=(lJ kvs j).map λx=>if j=k then y else x
 | []=>rfl
 |p::r=>by
  have ih:=aGk k j y r;rw[Ba];by_cases h:p.1=k
  ·rw[if_pos h];by_cases e:p.1=j
   ·rw[gB (p:=(p.1,y)) e,gB e,Hu,if_pos (e.symm.trans h)]
   ·rw[fY (p:=(p.1,y)) e,fY e,ih]
  ·rw[if_neg h];by_cases e:p.1=j
   ·rw[gB (p:=p) e,gB e,Hu,if_neg (λz=>h (e.trans z))]
   ·rw[fY (p:=p) e,fY e,ih]
theorem aBv(k j:κ)(y:V):∀kvs:List (κ×V),lJ kvs k=none->lJ (kvs++[(k,y)]) j=if j=k then some y else lJ kvs j
 | [],_=>by
  by_cases e:k=j
  ·rw[if_pos e.symm];exact gB (p:=(k,y)) e
  ·rw[if_neg (λz=>e z.symm)];exact fY (p:=(k,y)) e
 |p::r,hn=>by
  rw[List.cons_append];have hk:¬p.1=k:=λz=>by rw[gB z]at hn;cases hn
  rw[fY hk]at hn;have ih:=aBv k j y r hn;by_cases e:p.1=j
  ·rw[gB e,gB e,if_neg (λz=>hk (e.trans z))]
  ·rw[fY e,fY e,ih]
def aM0(kvs:List (κ×V))(k j:κ)(y:V):lJ (putK kvs k y) j=if j=k then some y else lJ kvs j:=by
 unfold putK;by_cases a:(kvs.any λkv=>decide (kv.1=k))=true
 ·rw[if_pos a,aGk];rw[vO]at a;by_cases e:j=k
  ·obtain⟨x,hx⟩:=Option.isSome_iff_exists.mp a;rw[if_pos e,e,hx,Hu,if_pos rfl]
  ·rw[if_neg e];cases lJ kvs j with
   |none=>rfl
   |some x=>rw[Hu,if_neg e]
 ·rw[if_neg a];refine aBv k j y kvs ?_;rw[vO]at a;cases q:lJ kvs k with
  |none=>rfl
  |some x=>rw[q]at a;exact(a rfl).elim
def sV(kvs:List (κ×V))(k:κ)(v:V):(putK kvs k v).length<=kvs.length+1:=by
 unfold putK;split
 ·rw[Ab];lia
 ·rw[Al,Am,Kr];lia
def tH.isSome_eq{u:#v[12]}(r:tH o u):o.isSome=u.isSome:=by
 cases o with
 |none=>cases u with
  |none=>rfl
  |some _=>exact(show False from r).elim
 |some _=>cases u with
  |none=>exact(show False from r).elim
  |some _=>rfl
def KV.val{kvs:List (κ×V)}{vs:List (κ×Value)}(r:KV kvs vs)(k:κ):tH (lJ kvs k) (valueAt vs k):=by
 unfold KV at r;induction r with
 |nil=>exact Fu
 |@cons p q ps qs h t ih=>
  obtain⟨h1,h2⟩:=h;by_cases e:p.1=k
  ·have e':q.1=k:=h1.symm.trans e;have b:valueAt (q::qs) k=some q.2:=by simp[valueAt,Gr,e']
   rw[gB e,b];exact h2
  ·have e':¬q.1=k:=λz=>e (h1.trans z);have b:valueAt (q::qs) k=valueAt qs k:=by simp[valueAt,Gr,e']
   rw[fY e,b];exact ih
def KV.any{kvs:List (κ×V)}(r:KV kvs vs)(k:κ):(kvs.any λkv=>decide (kv.1=k))=vs.any λkv=>decide (kv.1=k):=by
 unfold KV at r;induction r with
 |nil=>rfl
 |cons h t ih=>rw[Hz,Hz,ih,h.1]
def KV.repl{kvs:List (κ×V)}(r:KV kvs vs)(k:κ)(ry:RelV y u):
  KV (kvs.map λkv=>if kv.1=k then(kv.1,y)else kv) (vs.map λkv=>if kv.1=k then(kv.1,u)else kv):=by
 unfold KV at r⊢;induction r with
 |nil=>exact .nil
 |@cons p q ps qs h t ih=>
  rw[Ba,Ba];refine .cons ?_ ih;obtain⟨h1,h2⟩:=h;by_cases e:p.1=k
  ·rw[if_pos e,if_pos (h1.symm.trans e)];exact#[h1,ry]
  ·rw[if_neg e,if_neg (λz=>e (h1.trans z))];exact#[h1,h2]
def KV.put{kvs:List (κ×V)}(r:KV kvs vs)(k:κ)(ry:RelV y u):KV (putK kvs k y) (stored vs k u):=by
 unfold putK stored;rw[r.any k];by_cases e:(vs.any λkv=>decide (kv.1=k))=true
 ·rw[if_pos e,if_pos e];exact r.repl k ry
 ·rw[if_neg e,if_neg e];exact Um r #[rfl,ry]
def KV.length{kvs:List (κ×V)}(r:KV kvs vs):kvs.length=vs.length:=Ol r
end
def aI9(r:RelV (kV k) u):(gQ P w).is k u=true:=by
 cases k with
 |inl i=>obtain⟨t,e⟩:=(show∃t,u=Ec i t from r);subst e;exact aFs P w i t
 |inr x=>obtain⟨t,e⟩:=(show∃t,u=Na x t from r);subst e;exact aGh P w x t
theorem aCf:∀{ks:List Key}{us:List Value},Vals (ks.map kV) us->ItemsAre (gQ P w) ks us
 | [],_,r=>by rw[Fm]at r;cases r;exact .nil
 |k::ks,_,r=>by
  rw[Ba]at r;cases r with
  |cons h t=>exact .cons (aI9 h) (aCf t)
abbrev KT(H:Hp):List (List Key×V)->List (List Key×Addr×Value)->Prop:=Paired λp q=>p.1=q.1/\H q.2.1=some (.tup (p.1.map kV))/\RelV p.2 q.2.2
def KT.val{H:Hp}(r:KT H kvs xs)(k:List Key):tH (lJ kvs k) ((atKey xs k).map (·.2)):=by
 induction r with
 |nil=>exact Fu
 |@cons p q ps qs h t ih=>
  obtain⟨h1,_,h2⟩:=h;by_cases e:p.1=k
  ·have e':q.1=k:=h1.symm.trans e;have b:atKey (q::qs) k=some q.2:=by simp[atKey,Gr,e']
   rw[gB e,b];exact h2
  ·have e':¬q.1=k:=λz=>e (h1.trans z);have b:atKey (q::qs) k=atKey qs k:=by simp[atKey,Gr,e']
   rw[fY e,b];exact ih
def KT.repl(r:KT H kvs xs)(k:List Key)(ry:RelV y u):
  KT H (kvs.map λkv=>if kv.1=k then(kv.1,y)else kv) (xs.map (putAt k u)):=by
 induction r with
 |nil=>exact .nil
 |@cons p q ps qs h t ih=>
  rw[Ba,Ba];refine .cons ?_ ih;obtain⟨h1,h2,h3⟩:=h;unfold putAt;by_cases e:p.1=k
  ·rw[if_pos e,if_pos (h1.symm.trans e)];exact#[h1,h2,ry]
  ·rw[if_neg e,if_neg (λz=>e (h1.trans z))];exact#[h1,h2,h3]
def KT.put(r:KT H kvs xs)(k:List Key)(hb:H b=some (.tup (k.map kV)))(ry:RelV y u):
  KT H (putK kvs k y) (storedH xs k b u):=by
 have e:(kvs.any λkv=>decide (kv.1=k))=(atKey xs k).isSome:=by
  rw[vO,(r.val k).isSome_eq,Qw]
 unfold putK storedH;rw[e];by_cases q:(atKey xs k).isSome=true
 ·rw[if_pos q,if_pos q];exact r.repl k ry
 ·rw[if_neg q,if_neg q];exact Um r #[rfl,hb,ry]
def KT.keeps(r:KT H kvs xs)(ht:∀b ys,H b=some (.tup ys)->H' b=some (.tup ys)):KT H' kvs xs:=
 Paired.mapP r λ_ _ z=>#[z.1,ht _ _ z.2.1,z.2.2]
variable {P:Program}{w:World}{H:Hp}{h:Heap}{a:Addr}
def aTy{u:HO}(ok:HOk P w H h)(e:Rd H a u):bO P w H h a u:=e.ok ok
def aEy{kvs:List (Key×V)}(ok:HOk P w H h)(e:Rd H a (.dK kvs)):kvs.length<=sizeLine/\(a==sysModules)=false/\∃vs,KV kvs vs/\h.DictOf (gQ P w) a vs:=
 show bO P w H h a (.dK kvs)from aTy ok e
def bAw{kvs:List (Key×V)}(ok:HOk P w H h)(e:H a=some (.dK kvs)):kvs.length<=sizeLine/\(a==sysModules)=false/\∃vs,KV kvs vs/\h.DictOf (gQ P w) a vs:=aEy ok (.inl e)
def aD1(ok:HOk P w H h)(e:H a=some (.tup (ks.map kV))):(tupleKind (gQ P w)).is h ks a:=by
 obtain⟨_,its,r,o,h1,h2,n,h3⟩:=(show bO P w H h a (.tup (ks.map kV))from ok a _ e);exact#[o,its.toArray,n,h1,h2,h3,by simpa using aCf r]
def aJ1(ok:HOk P w H h)(e:Rd H a (.dT kvs)):kvs.length<=sizeLine/\(a==sysModules)=false/\
  ∃xs,KT H kvs xs/\h.DictOfH (tupleKind (gQ P w)) a xs:=by
 obtain⟨z,y,xs,r,o,es,ep,h1,h2,h3,h4,h5⟩:=(show bO P w H h a (.dT kvs)from aTy ok e);refine#[z,y,xs,r,o,es,ep,h1,h2,h3,h4,λx hx=>?_,h5];have all:∀{l:List (List Key×V)}{m:List (List Key×Addr×Value)},KT H l m->∀x∈m,(tupleKind (gQ P w)).is h x.1 x.2.1:=by
  intro l m q;induction q with
  |nil=>intro x hx;exact nomatch hx
  |@cons p q ps qs hq t ih=>
   intro x hx;rcases List.mem_cons.mp hx with e|hx
   ·subst e;exact aD1 ok (by rw[<-hq.1];exact hq.2.1)
   ·exact ih x hx
 exact all r x hx
def aZl(ok:HOk P w H h)(e:H a=some (.dT kvs)):kvs.length<=sizeLine/\(a==sysModules)=false/\
  ∃xs,KT H kvs xs/\h.DictOfH (tupleKind (gQ P w)) a xs:=aJ1 ok (.inl e)
def aBl(H:Hp)(a:Addr)(y:V)(r:Option V):Prop:=
 (∃kvs k,Rd H a (.dK kvs)/\y=kV k/\r=lJ kvs k)∨∃kvs k b,Rd H a (.dT kvs)/\y=.ref b/\H b=some (.tup (k.map kV))/\r=lJ kvs k
def aOj(H:Hp)(a:Addr)(y v:V)(H':Hp):Prop:=
 (∃kvs k,H a=some (.dK kvs)/\y=kV k/\kvs.length<sizeLine/\H'=upd H a (.dK (putK kvs k v)))∨
 ∃kvs k b,H a=some (.dT kvs)/\y=.ref b/\H b=some (.tup (k.map kV))/\kvs.length<sizeLine/\H'=upd H a (.dT (putK kvs k v))
theorem aBl.k{H:Hp}{a:Addr}{kvs:List (Key×V)}{k:Key}(e:H a=some (.dK kvs)):aBl H a (kV k) (lJ kvs k):=.inl #[kvs,k,.inl e,rfl,rfl]
theorem aOj.k{H:Hp}{a:Addr}{kvs:List (Key×V)}{k:Key}{v:V}(e:H a=some (.dK kvs))(hl:kvs.length<sizeLine):aOj H a (kV k) v (upd H a (.dK (putK kvs k v))):=.inl #[kvs,k,e,rfl,hl,rfl]
variable {X:Cx}{pins:#v[8]}{σ:St}{s:Shared}{y v:V}{u r:Value}{o:Option V}{A:Around}{E:#v[7]}
def Inv.big(I:#v[4]):sysModules<#v[0]:=by
 have h:mainGlobals<#v[0]:=(I.mod.glob.keeps I.bk).lt;exact Kz ⋯ h
def aLj(hu:A.units+1<cLine)(I:#v[4])(g:aBl H a y (some v))(ry:RelV y u)(h:∀w' s',Inv X pins σ H s'->RelV v w'->Q w' s'):
  wpAny #v[p] A (getItem (.ref a) u) Q E s:=by
 rcases g with ⟨kvs,k,e,ey,l⟩|⟨kvs,k,b,e,ey,eb,l⟩
 ·subst ey;obtain⟨z,hd,vs,rel,dd⟩:=aEy I.hok e;obtain⟨w',hw,rw'⟩:=tH.some_of (v:=v) (o:=valueAt vs k) (by rw[l];exact rel.val k);exact wpAny_getItem_of (aI9 ry) dd.mapOf hw (h w' _ (I.tok _) rw')
 ·subst ey;cases (show u=Ao b from ry);obtain⟨z,hd,xs,rel,dd⟩:=aJ1 I.hok e;obtain⟨w',hw,rw'⟩:=tH.some_of (v:=v) (o:=(atKey xs k).map (·.2)) (by rw[l];exact rel.val k);obtain⟨p,hp,hp2⟩:=Option.map_eq_some_iff.mp hw;refine wpAny_getItem_heap (Mz hu) (aD1 I.hok eb) dd hp ?_;rw[hp2];exact h w' _ (I.tok _) rw'
def aTe(hu:A.units+1<cLine)(I:#v[4])(g:aBl H a y o)(ry:RelV y u)(h:∀s',Inv X pins σ H s'->Q (.bool (!o.isSome)) s'):
  wpAny #v[p] A (compareOp .NotIn u (.ref a)) Q E s:=by
 rcases g with ⟨kvs,k,e,ey,l⟩|⟨kvs,k,b,e,ey,eb,l⟩
 ·subst ey;obtain⟨z,hd,vs,rel,dd⟩:=aEy I.hok e;refine wpAny_notIn_of (aI9 ry) hd dd.mapOf ?_;rw[<-(rel.val k).isSome_eq, <-l];exact h _ (I.tok _)
 ·subst ey;cases (show u=Ao b from ry);obtain⟨z,hd,xs,rel,dd⟩:=aJ1 I.hok e;refine wpAny_notIn_heap (Mz hu) (aD1 I.hok eb) hd dd ?_;have q:=(rel.val k).isSome_eq;rw[Qw]at q;rw[<-q, <-l];exact h _ (I.tok _)
def aJr(I:#v[4])(mu:Mut (H a))(hs:Dv a s.heap h')(he:∃q,h'.get? a=some q)(new:bO X.prog X.w (upd H a ob) h' a ob):
  Inv X pins σ (upd H a ob) {s with heap:=h',toks:=t'}:=
 I.write (x:=a) (e:=a) mu (.inl rfl) (λb q hb z=>(hs.2 b hb).trans z) he new
def aVe{P:Program}{w:World}{kvs:List (Key×V)}(z:kvs.length<=sizeLine)(hd:(a==sysModules)=false)(rel:KV kvs vs)(dd:h'.DictOf (gQ P w) a vs):
  bO P w H' h' a (.dK kvs):=#[z,hd,vs,rel,dd]
def aK6{Q:Unit->Shared->Prop}(hu:A.units+1<cLine)(I:#v[4])(g:aOj H a y v H')(ry:RelV y u)(rv:RelV v r)(h:∀s',Inv X pins σ H' s'->Q () s'):
  wpAny #v[p] A (setItem (.ref a) u r) Q E s:=by
 rcases g with ⟨kvs,k,e,ey,l,eH⟩|⟨kvs,k,b,e,ey,eb,l,eH⟩
 ·subst ey eH;obtain⟨z,hd,vs,rel,dd⟩:=bAw I.hok e;have hz:vs.length<=sizeLine:=by rw[<-rel.length];exact z
  have hl:(putK kvs k v).length<=sizeLine:=by have:=sV kvs k v;lia
  refine wpAny_setItem_pairs (hsz:=hz) (aI9 ry) dd λh' dd' hs=>h _ ?_;have he:∃q,h'.get? a=some q:=let⟨q,_,_,hq,_⟩:=dd';#[q,hq];exact aJr I (by rw[e];exact Fu) hs he (aVe hl hd (rel.put k rv) dd')
 ·subst ey eH;cases (show u=Ao b from ry);obtain⟨z,hd,xs,rel,dd⟩:=aZl I.hok e;have hz:xs.length<=sizeLine:=by rw[<-Ol rel];exact z
  have hl:(putK kvs k v).length<=sizeLine:=by have:=sV kvs k v;lia
  refine wpAny_setItem_heap (hsz:=hz) (Mz hu) (aD1 I.hok eb) dd λh' dd' hs=>h _ ?_;obtain⟨q,es,ep,hq,h2,h3,h4,_,h5⟩:=dd';refine aJr I (by rw[e];exact Fu) hs #[q,hq] #[hl,hd,_,(rel.put k eb rv).keeps λc ys ec=>?_,q,es,ep,hq,h2,h3,h4,h5];rw[aN (bAa ec e (λz=>nomatch z))];exact ec
variable {kvs:List (Key×V)}{k:Key}
def aZs(I:#v[4])(e:Rd H a (.dK kvs))(h:∀t s',Inv X pins σ H s'->Q (.int kvs.length t) s'):wpAny #v[p] A (call (.builtin "len") [.ref a]) Q E s:=by
 obtain⟨z,hd,vs,rel,dd⟩:=aEy I.hok e;refine call_len_dict hd dd (by rw[<-rel.length];rw[Dy]at z;lia) ?_;rw[<-rel.length];exact h _ _ (I.tok _)
def aXp(i:Expr):Prop:=∀ov iv,subscripted i false ov iv=operate [ov,iv] (getItem ov iv)
def aR1{prog:Program}{w:World}{A:Around}{E:#v[7]}{s:Shared}{env:Env}{value slice:Expr}{pos:Pos}{T id:String}
  (hl:typeLookup (.type T) "__getitem__"=pure (some (.builtin id))) (hs:aXp slice)
  (h:#v[2] (eval value env) (λo s₁=>#v[2] (eval slice env) (λi s₂=>s₂.TypeIs o T/\#v[2] (getItem o i) Q E s₂) E s₁) E s):
  #v[2] (eval (.Subscript value slice pos) env) Q E s:=by
 refine Vl (Es h (λo s₁ h₁=>Es h₁ (λi s₂ h₂=>?_) λ_ _ x=>x) λ_ _ x=>x);obtain⟨hT,h₂⟩:=h₂;unfold subscriptTail;refine Aa ?_;rw[getitemInPython_of_ne hT.not_modules];refine Aa (Eb hT hl ?_);have fin:#v[2] (subscripted slice false o i) (λr s₃=>#v[2] (letTemporaryGo value o r>>=λ_=>pure r) Q E s₃) E s₂:=by
  rw[hs o i];exact wpAny_operating (Es h₂ (λr s₃ h₃=>Aa (wpAny_letTemporaryGo (Ac h₃))) λ_ _ x=>x)
 first
  |exact Ac (Aa fin)
  |exact Aa (Ac (Aa fin))
  |exact Aa fin
def aF5{X:Cx}{pins:#v[8]}{σ:St}{H:Hp}{s:Shared}{a:Addr}{y:V}{o:Option V}(I:#v[4])(g:aBl H a y o):s.TypeIs (.ref a) "dict":=by
 rcases g with ⟨kvs,k,e,_,_⟩|⟨kvs,k,b,e,_,_,_⟩
 ·obtain⟨_,_,vs,_,dd⟩:=aEy I.hok e;exact dd.typeIs
 ·obtain⟨_,_,xs,_,dd⟩:=aJ1 I.hok e;exact dd.typeIs
def aY0(td ty:TE):TE:=λσ H Q=>td σ H λx H1=>ty σ H1 λy H2=>∃a v,x=.ref a/\aBl H2 a y (some v)/\Q v H2
def bB3(ty td:TE):TE:=λσ H Q=>ty σ H λy H1=>td σ H1 λx H2=>∃a o,x=.ref a/\aBl H2 a y o/\Q (.bl o.isSome) H2
def aJs(ty td:TE):TE:=λσ H Q=>ty σ H λy H1=>td σ H1 λx H2=>∃a o,x=.ref a/\aBl H2 a y o/\Q (.bl (!o.isSome)) H2
def bAv(td ty tv:TE):TS:=λD σ H=>tv σ H λv H1=>td σ H1 λx H2=>ty σ H2 λy H3=>∃a H4,x=.ref a/\aOj H3 a y v H4/\D.nx σ H4
section
variable {X:Cx}{o i e value:Expr}{pos pos' tpos:Pos}{td ty tv:TE}
def aRd(hu:X.A.units+1<cLine)(ho:PE X o td)(hi:PE X i ty)(hs:aXp i):PE X (.Subscript o i pos) (aY0 td ty):=by
 intro pins s σ H Q I h;refine aR1 PySem.F.slot_dict_getitem.lookup hs (thn (ho pins s σ H _ I h) λu s1 ⟨x,H1,I1,rx,q1⟩=>thn (hi pins s1 σ H1 _ I1 q1) λiv s2 ⟨y,H2,I2,ry,a,v,ex,g,q2⟩=>?_);subst ex;obtain rfl:u=Ao a:=rx;exact#[aF5 I2 g,aLj hu I2 g ry λw' s3 I3 rw'=>#[v,H2,I3,rw',q2]]
def aKi(hu:X.A.units+1<cLine)(hi:PE X i ty)(ho:PE X o td):PC X .NotIn i o (aJs ty td):=by
 intro pins s σ H Q I h;refine thn (hi pins s σ H _ I h) λiv s1 ⟨y,H1,I1,ry,q1⟩=>thn (ho pins s1 σ H1 _ I1 q1) λu s2 ⟨x,H2,I2,rx,a,ov,ex,g,q2⟩=>?_;subst ex;obtain rfl:u=Ao a:=rx;exact aTe hu I2 g ry λs3 I3=>#[.bl (!ov.isSome),H2,I3,rfl,q2]
def aRf(hu:X.A.units+1<cLine)(ho:PE X o td)(hi:PE X i ty)(hv:PE X value tv)(hs:swapsWith value (some (.Subscript o i pos')) pos.line X.env=pure false):
  PS X (.Assign [.Subscript o i pos'] value pos) (bAv td ty tv):=by
 intro pins s σ H D I h;refine wpAny_Assign_Subscript (thn (hv pins s σ H _ I h) λr s1 ⟨v,H1,I1,rv,q1⟩=>thn (ho pins s1 σ H1 _ I1 q1) λu s2 ⟨x,H2,I2,rx,q2⟩=>thn (hi pins s2 σ H2 _ I2 q2) λiv s3 ⟨y,H3,I3,ry,a,H4,ex,g,q3⟩=>?_) hs;subst ex;obtain rfl:u=Ao a:=rx;exact aK6 hu I3 g ry rv λs4 I4=>#[σ,H4,I4,q3]
end
def aMm{P:Program}{w:World}{H:Hp}(h:Heap)(hb:sysModules<h.objs.size):bO P w H (h.push #v[9]) h.objs.size (.dK []):=
 #[Bg _,beq_eq_false_iff_ne.mpr (Cg (Aw hb)),[],.nil,Xi h]
def aU7:TE:=λ_ H Q=>∀p,H p=none->Q (.ref p) (upd H p (.dK []))
variable {pos:Pos}
def aNr:PE X (.Dict [] [] pos) aU7:=λpins s σ H Q I h=>
 wpAny_Dict_empty #[.ref #v[0],_,I.laid (a:=#v[0]) (o:=.dK []) (t':=s.toks) (λ_ _ q=>Ae _ q) (Aj _) (aMm s.heap I.big),rfl,h _ #v[G]]
variable {y d:V}
section
variable {X:Cx}{o e f:Expr}{apos cpos:Pos}{td ty tx:TE}
end
def aLc:dO X (.builtin "len") (λxs H Q=>∃a kvs,xs=[V.ref a]/\H a=some (.dK kvs)/\Q (.int kvs.length) H):=by
 intro pins s σ H xs us Q I r h;obtain⟨a,kvs,rfl,ha,q⟩:=h;obtain⟨u,rfl,ru⟩:=vals1 r;cases ru;exact aZs I (.inl ha) λt s' I'=>#[.int kvs.length,H,I',#[t,rfl],q]
section
variable {κ:Type} [DecidableEq κ]
end
end L2
namespace PySem
variable {Q:Bool->Shared->Prop}{xs:Array Nat}{a:Addr}{j:Nat}{h h':Heap}{α:Type}{items:Array Value}{i:Nat}{n:Nat}{e:Nat}{N:Nat}
open AutoSeq1 (wpAny_loadPart')
open Sem (wp)
variable {prog:Program}{w:World}{A:Around}{E:#v[7]}{s:Shared}
def vQ{Q:#v[7]}(hit:s.heap.IsTupleIter it t i)(ht:s.heap.IsTuple t items)(hx:items[i]? =some x)
  (hQ:∀h',h'.IsTupleIter it t (i+1)->Dv it s.heap h'->Q x {s with heap:=h'}):#v[2] (Cd (.ref it)) Q E s:=by
 obtain⟨o,ho,hc,hd⟩:=id hit;obtain⟨ol,hol,_,nl,hdl⟩:=ht;unfold Cd;refine Aa (Cc (name:=Do "__next__") hit.typeIs Ho
  (Bl Ho hit.typeIs Pf ?_ (Os _)))
 show wpAny _ _ (field (.ref it) 0>>=_) _ _ s;refine Aa (De ho hd (x:=.ref t) rfl ?_);show wpAny _ _ (if(Ao t==Bn)=true then _ else _) _ _ s;rw[if_neg (show¬((Ao t==Bn)=true)from An)];show wpAny _ _ (field (.ref it) 1>>=_) _ _ s;refine Aa (De ho hd (x:=.int i 0) rfl ?_);show wpAny _ _ (seqItems? (.ref t)>>=_) _ _ s;refine Aa (Cp hol hdl ?_);simp only[Bw,hx];refine Aa (Fz ho hd (by simp) (Ac #[x,rfl,Ac (hQ _ ?_ (Cb ..))]));exact⟨_,Bj _ ho (Gv (Dw hd _)),(Ih ..).trans hc,by
  rw[Dw hd];simp[rawInt]⟩
def wC{Q:#v[7]}(hh:#v[O])(hit:s.heap.IsTupleIter it t i)(ht:s.heap.IsTuple t items)(hx:items[i]? =none)
  (hE:∀h' e,Nt it s.heap h'->(∃o,h'.get? e=some o/\o.cls=.type "StopIteration")->E (.ref e) {s with heap:=h'}):#v[2] (Cd (.ref it)) Q E s:=by
 obtain⟨o,ho,hc,hd⟩:=id hit
 obtain⟨ol,hol,_,nl,hdl⟩:=ht
 unfold Cd
 refine Aa (Cc (name:=Do "__next__") hit.typeIs Ho
  (Bl Ho hit.typeIs Pf ?_ (Os _)))
 show wpAny _ _ (field (.ref it) 0>>=_) _ _ s
 refine Aa (De ho hd (x:=.ref t) rfl ?_)
 show wpAny _ _ (if(Ao t==Bn)=true then _ else _) _ _ s
 rw[if_neg (show¬((Ao t==Bn)=true)from An)]
 show wpAny _ _ (field (.ref it) 1>>=_) _ _ s
 refine Aa (De ho hd (x:=.int i 0) rfl ?_)
 show wpAny _ _ (seqItems? (.ref t)>>=_) _ _ s
 refine Aa (Cp hol hdl ?_)
 simp only[Bw,hx]
 refine Aa (Hr (Aa (Fz ho hd (by simp) ?_)))
 show wpAny _ _ (newExc (.type "StopIteration") []>>=_) _ _ _
 refine Aa ?_
 simp only[newExc,newTuple]
 refine Aa (Bp ?_ (by size_fits))
 refine Aa (m:=firstArgMember _ _) (Kv (a:=Bn) (by first|rfl|(simp only[firstArgMember];rfl)) ?_)
 refine Bp ?_ (by size_fits)
 simp only[raiseNew]
 refine Aa (My ?_)
 first|rw[show A.in1.handled=none from hh]|rw[hh]
 refine Aa (Ac (Pn ?_))
 exact hE _ _ (((Cb ..).extBut.push _).push _) #[_,Ap _ rfl,rfl]
structure aQ1(h:Heap)(z TI TO i1 i2 t l:Addr)(k:Nat)(f0:Value):Prop where
 z:IsZip h z TI TO f0
 ti:IsPair h TI (.ref i1) (.ref i2)
 to:∃a b,IsPair h TO a b
 h1:h.IsTupleIter i1 t k
 h2:h.IsListIter i2 l k
def aLg{xs ys:Array Value}{Q:#v[56]}(D:ZipApart z TI TO i1 i2 t l)(S:aQ1 s.heap z TI TO i1 i2 t l k .none)
  (hl1:s.heap.IsTuple t xs) (hl2:s.heap.IsList l ys) (hx:xs[k]? =some x) (hy:ys[k]? =some y)
  (hQ:∀h',aQ1 h' z TI TO i1 i2 t l (k+1) (rawInt #v[0])->IsPair h' #v[0] x y->h'.objs.size=#v[0]+1->
   (∀c o,c≠z->c≠TO->c≠i1->c≠i2->s.heap.get? c=some o->h'.get? c=some o)->Q (some #v[32]) {s with heap:=h'}):
  #v[2] (pyNext (.ref z)) Q E s:=by
 obtain⟨hz,hTI,⟨a,b,hTO⟩,h1,h2⟩:=S;have hT:s.TypeIs (.ref z) "zip":=#[_,hz,rfl];unfold pyNext;refine Aa (Gj (Cc (name:=Do "__next__") hT Ga (Bl Ga hT Kt ?_ (Kk _))));show wpAny _ _ (field (.ref z) 2>>=_) _ _ _;refine Aa (De hz rfl (x:=.bool false) rfl ?_);show wpAny _ _ (field (.ref z) 3>>=_) _ _ _;refine Aa (De hz rfl (x:=.ref TI) rfl ?_);refine Aa (Cp hTI rfl ?_);show wpAny _ _ (Bu (.ref z)>>=_) _ _ _;refine Aa ?_;unfold Bu;refine Aa (De hz rfl (x:=.none) rfl (Ac ?_));simp only[if_true];refine Aa (Hr ?_);refine Aa (De hz rfl (x:=.ref TO) rfl ?_);refine Aa (Gy hz (by simp) λh₁ hz₁ hs₁=>?_)
 replace hz₁:IsZip h₁ z TI TO .ellipsis:=hz₁
 refine Aa ?_;simp only[Sj,Th,Gq,Ii];refine Aa (Aa (Re ?_));show wpAny _ _ (Cd (.ref i1)>>=_) _ _ _;refine Aa (vQ (h1.extBut hs₁.extBut D.i1z) (hl1.extBut hs₁.extBut D.l1z) hx λh₂ h1₂ hs₂=>Ac ?_);have hTO₂:IsPair h₂ TO a b:=hs₂.extBut _ _ D.TOi1 (hs₁.extBut _ _ D.TOz hTO);refine Aa (Cp hTO₂ rfl ?_);refine Aa (Sx hTO₂ λh₃ hTO₃ hs₃=>?_)
 replace hTO₃:IsPair h₃ TO x b:=hTO₃
 refine Aa (Jp (Ac ?_));refine Aa (Aa (Re ?_));show wpAny _ _ (Cd (.ref i2)>>=_) _ _ _;refine Aa (Ld (((h2.extBut hs₁.extBut D.i2z).extBut hs₂.extBut D.i12.symm).extBut hs₃.extBut D.TOi2.symm)
  (((hl2.extBut hs₁.extBut D.l2z).extBut hs₂.extBut D.l2i1).extBut hs₃.extBut D.l2TO) hy λh₄ h2₄ hs₄=>Ac ?_)
 have hTO₄:IsPair h₄ TO x b:=hs₄.extBut _ _ D.TOi2 hTO₃;refine Aa (Cp hTO₄ rfl ?_);refine Aa (Sx hTO₄ λh₅ hTO₅ hs₅=>?_)
 replace hTO₅:IsPair h₅ TO x y:=hTO₅
 refine Aa (Jp (Ac (Ac ?_)));refine Aa (Cp hTO₅ rfl ?_);refine Aa (Qg ?_);have hsz:h₅.objs.size=#v[0]:=by rw[hs₅.1,hs₄.1,hs₃.1,hs₂.1,hs₁.1]
 have hz₅:IsZip h₅ z TI TO .ellipsis:=hs₅.extBut _ _ D.TOz.symm (hs₄.extBut _ _ D.i2z.symm (hs₃.extBut _ _ D.TOz.symm (hs₂.extBut _ _ D.i1z.symm hz₁)));have hk₅:∀c o,c≠z->c≠TO->c≠i1->c≠i2->s.heap.get? c=some o->h₅.get? c=some o:=λc o c1 c2 c3 c4 e=>
  hs₅.extBut _ _ c2 (hs₄.extBut _ _ c4 (hs₃.extBut _ _ c2 (hs₂.extBut _ _ c3 (hs₁.extBut _ _ c1 e))))
 have h1₅:h₅.IsTupleIter i1 t (k+1):=((h1₂.extBut hs₃.extBut D.TOi1.symm).extBut hs₄.extBut D.i12).extBut hs₅.extBut D.TOi1.symm;have h2₅:h₅.IsListIter i2 l (k+1):=h2₄.extBut hs₅.extBut D.TOi2.symm;have hzlt:z<h₅.objs.size:=Ar hz₅;show wpAny _ _ (Jk (.ref z) (.ref h₅.objs.size)>>=_) _ _ _;refine Aa ?_;unfold Jk;have hz₆:IsZip (h₅.push {cls:=.type "tuple",data:=.seq (List.toArray [x,y])}) z TI TO .ellipsis:=Ae _ hz₅;refine Aa (Gy hz₆ (by simp) λh₇ hz₇ hs₇=>?_)
 replace hz₇:IsZip h₇ z TI TO (rawInt h₅.objs.size):=hz₇
 refine Gy hz₇ (by simp) λh₈ hz₈ hs₈=>?_
 replace hz₈:IsZip h₈ z TI TO (rawInt h₅.objs.size):=hz₈
 have up:∀c o,c≠z->h₅.get? c=some o->h₈.get? c=some o:=λc o c1 e=>hs₈.extBut _ _ c1 (hs₇.extBut _ _ c1 (Ae _ e));have hT₈:IsPair h₈ h₅.objs.size x y:=hs₈.extBut _ _ (Fc hzlt) (hs₇.extBut _ _ (Fc hzlt) (Ap _ rfl));have hz8:h₈.objs.size=h₅.objs.size+1:=by rw[hs₈.1,hs₇.1,Ck]
 rw[hsz]at hz₈ hT₈ hz8;refine Ac #[_,rfl,Ac ?_];show Q (some (.ref h₅.objs.size)) _;rw[hsz];exact hQ h₈ #[hz₈,up _ _ D.TIz (hk₅ _ _ D.TIz D.TITO D.TIi1 D.TIi2 hTI),#[_,_,up _ _ D.TOz hTO₅],h1₅.at λo e=>up _ o D.i1z e,h2₅.at λo e=>up _ o D.i2z e] hT₈ hz8 λc o c1 c2 c3 c4 e=>up c o c1 (hk₅ c o c1 c2 c3 c4 e)
def aQj{xs:Array Value}{Q:#v[56]}(hh:#v[O])(D:ZipApart z TI TO i1 i2 t l)(S:aQ1 s.heap z TI TO i1 i2 t l k .none)
  (hl1:s.heap.IsTuple t xs) (hx:xs[k]? =none)
  (hQ:∀h',(∀c o,c≠z->c≠TO->c≠i1->c≠i2->s.heap.get? c=some o->h'.get? c=some o)->Q none {s with heap:=h'}):#v[2] (pyNext (.ref z)) Q E s:=by
 obtain⟨hz,hTI,⟨a,b,hTO⟩,h1,h2⟩:=S;have hT:s.TypeIs (.ref z) "zip":=#[_,hz,rfl];unfold pyNext;refine Aa (Gj (Cc (name:=Do "__next__") hT Ga (Bl Ga hT Kt ?_ (Kk _))));show wpAny _ _ (field (.ref z) 2>>=_) _ _ _;refine Aa (De hz rfl (x:=.bool false) rfl ?_);show wpAny _ _ (field (.ref z) 3>>=_) _ _ _;refine Aa (De hz rfl (x:=.ref TI) rfl ?_);refine Aa (Cp hTI rfl ?_);show wpAny _ _ (Bu (.ref z)>>=_) _ _ _;refine Aa ?_;unfold Bu;refine Aa (De hz rfl (x:=.none) rfl (Ac ?_));simp only[if_true];refine Aa (Hr ?_);refine Aa (De hz rfl (x:=.ref TO) rfl ?_);refine Aa (Gy hz (by simp) λh₁ hz₁ hs₁=>?_)
 replace hz₁:IsZip h₁ z TI TO .ellipsis:=hz₁
 refine Aa ?_;simp only[Sj,Th,Gq,Ii];refine Aa (Aa (Re ?_));show wpAny _ _ (Cd (.ref i1)>>=_) _ _ _;refine Aa (wC hh (h1.extBut hs₁.extBut D.i1z) (hl1.extBut hs₁.extBut D.l1z) hx λh₂ e hs₂ he=>?_);obtain⟨oe,hoe,hce⟩:=he;have hz₂:IsZip h₂ z TI TO .ellipsis:=hs₂ _ _ D.i1z.symm hz₁;have hez:e≠z:=λx=>by subst x;rw[hz₂]at hoe;cases hoe;simp at hce
 refine Gy hz₂ (by simp) λh₃ _ hs₃=>?_;refine Aa (Ed (T:="StopIteration") (b:=true) #[oe,hs₃.extBut _ _ hez hoe,hce] Kf ?_);exact Ac (hQ _ λc o c1 _ c3 _ x=>hs₃.extBut _ _ c1 (hs₂ _ _ c3 (hs₁.extBut _ _ c1 x)))
abbrev zT1(h:Heap)(t:Addr):Heap:=h.push {cls:=.type "tuple_iterator",data:=.fields (List.toArray [.ref t,.int 0 0])}
abbrev zT2(h:Heap)(t l:Addr):Heap:=(zT1 h t).push {cls:=.type "list_iterator",data:=.fields (List.toArray [.ref l,.int 0 0])}
abbrev zT3(h:Heap)(t l:Addr):Heap:=(zT2 h t l).push {cls:=.type "tuple",data:=.seq (List.toArray [.ref h.objs.size,.ref (zT1 h t).objs.size])}
abbrev zT4(h:Heap)(t l:Addr):Heap:=(zT3 h t l).push {cls:=.type "tuple",data:=.seq (List.toArray [.none,.none])}
abbrev zT5(h:Heap)(t l:Addr):Heap:=(zT4 h t l).push {cls:=.type "zip",data:=.fields (List.toArray [.none,.bool false,.bool false,.ref (zT2 h t l).objs.size,.ref (zT3 h t l).objs.size])}
def aAa(t l:Addr)(xs ys:Array Value):
  Meets (Builtin.«zip.__new__» #[[.type "zip",.ref t,.ref l],[]]) (λ_ R s=>s.heap.IsTuple t xs/\s.heap.IsList l ys/\
   R (.ok (.ret (.ref (zT4 s.heap t l).objs.size))) {s with heap:=zT5 s.heap t l}):=
 .of_wp λprog w A R s h=>by
  obtain⟨hp,g,d,tk,os⟩:=s;obtain⟨hl1,hl2,h⟩:=h;have hsub:=sub_zip;have hL1:Heap.IsTuple (Uj #[hp,g,d,tk,os]) t xs:=hl1;have hL2:Heap.IsList (Uj #[hp.push {cls:=.type "tuple_iterator",data:=.fields (List.toArray [.ref t,.int 0 0])},g,d,tk,os]) l ys:=Xh hl2 _
  wp_walk using Ug hL1,Ir hL2
  exact#[_,rfl,h]
def aKx{prog:Program}{w:World}{A:Around}{E:#v[7]}{s:Shared}{xs ys:Array Value}{Q:#v[7]}(hl1:s.heap.IsTuple t xs)(hl2:s.heap.IsList l ys)
  (h:∀h',aQ1 h' (#v[0]+4) (#v[0]+2) (#v[0]+3) #v[0] (#v[0]+1) t l 0 .none->(∀c o,s.heap.get? c=some o->h'.get? c=some o)->Q (.ref (#v[0]+4)) {s with heap:=h'}):
  #v[2] (call (.type "zip") [.ref t,.ref l]) Q E s:=by
 refine callType_new F.called_zip ⋯ (F.typeCall_zip_2 _ _) (F.newCall_zip_2 _ _) (λobj=>F.args_object_init_3 obj _ _) F.entry_zip_new (aAa t l xs ys) #[hl1,hl2,?_];have z1:(zT1 s.heap t).objs.size=#v[0]+1:=Ck ..;have z2:(zT2 s.heap t l).objs.size=#v[0]+2:=by rw[Ck,z1]
 have z3:(zT3 s.heap t l).objs.size=#v[0]+3:=by rw[Ck,z2]
 have z4:(zT4 s.heap t l).objs.size=#v[0]+4:=by rw[Ck,z3]
 have g5:(zT5 s.heap t l).get? (zT4 s.heap t l).objs.size=some _:=Ap _ rfl;have g4:(zT5 s.heap t l).get? (zT3 s.heap t l).objs.size=some _:=Ae _ (Ap _ rfl);have g3:(zT5 s.heap t l).get? (zT2 s.heap t l).objs.size=some _:=Ae _ (Ae _ (Ap _ rfl));have g2:(zT5 s.heap t l).get? (zT1 s.heap t).objs.size=some _:=Ae _ (Ae _ (Ae _ (Ap _ rfl)));have g1:(zT5 s.heap t l).get? #v[0]=some _:=Ae _ (Ae _ (Ae _ (Ae _ (Ap _ rfl))));show _/\_;rw[z2,z3,z4]at g5;rw[z1,z2]at g3;rw[z3]at g4;rw[z1]at g2;rw[z4];exact⟨#[_,g5,rfl],h _ #[g5,g3,#[_,_,g4],#[_,g1,rfl,rfl],#[_,g2,rfl,rfl]] λc o x=>
  Ae _ (Ae _ (Ae _ (Ae _ (Ae _ x))))⟩
section
variable {prog:Program}{w:World}{K:Type} [DecidableEq K](knd:KeyKind prog w K)
def bN(h:Heap)(x:K×List K)(a:Addr):Prop:=∃o v b n,h.get? a=some o/\o.cls=.type "tuple"/\o.data=.seq (List.toArray [v,.ref b]) n/\knd.is x.1 v=true/\IsTupleKey knd h x.2 b
def rW(x:K×List K):Int:=reduceHash (Df [knd.hash x.1,tupleKeyHash knd x.2])
variable {knd}
def bN.typeIs{s:Shared}{x:K×List K}(h:bN knd s.heap x a):s.TypeIs (.ref a) "tuple":=let⟨o,_,_,_,ho,hc,_⟩:=h;#[o,ho,hc]
def bN.inj{h:Heap}(hx:bN knd h x a)(hy:bN knd h y a):x=y:=by
 obtain⟨o,v,b,n,ho,_,hd,h1,h2⟩:=hx;obtain⟨o',v',b',n',ho',_,hd',h1',h2'⟩:=hy;obtain rfl:o=o':=Bi (ho.symm.trans ho');rw[hd]at hd';injection hd' with e _
 have e1:v=v'/\b=b':=by simpa using e
 obtain⟨rfl,rfl⟩:=e1;exact Ng (knd.inj _ _ _ h1 h1') (h2.inj h2')
def bN.keeps{a d:Addr}{es ep}(hx:bN knd h x a)(ho:h.get? d=some o)(hd:o.data=.dict es ep)(hs:Dv d h h'):bN knd h' x a:=by
 obtain⟨o',v,b,n,ho',hc,hd',h1,h2⟩:=hx;have hne:a≠d:=by
  rintro rfl;obtain rfl:o'=o:=Bi (ho'.symm.trans ho);rw[hd]at hd';exact nomatch hd'
 exact#[o',v,b,n,(hs.2 a hne).trans ho',hc,hd',h1,h2.keeps ho hd hs]
variable {A:Around}{E:#v[7]}{s:Shared}
def uZ{x:K×List K}{Q:Int->Shared->Prop}(hu:A.units+1<cLine)(hk:bN knd s.heap x a)(h:Q (rW knd x) {s with toks:=s.toks+(x.2.length+3)}):
  #v[2] (pyHash (.ref a)) Q E s:=by
 have hT:=hk.typeIs
 obtain⟨o,v,b,n,ho,_,hd,h1,h2⟩:=hk
 unfold pyHash
 first|unfold pyHashByItsType|skip
 first|refine Aa (wpAny_cRoomFor_or (.inr ∅) ?_)|skip
 refine Aa (Eb hT F.slot_tuple_hash.lookup ?_)
 show wpAny _ _ (if(some (Tw "tuple.__hash__")==some Bn)=true then _ else _) Q E s
 rw[if_neg (by rw[beq_builtin_none];exact An)]
 refine Aa (Eb hT F.slot_tuple_hash.lookup ?_)
 show wpAny _ _ (callSpecialIfBoundUnlessNone? (.ref a) "__hash__" _>>=_) Q E s
 refine Aa (wpAny_callSpecialIfBoundUnlessNone?_slot hT Uc (Bl Uc hT F.entry_tuple_hash ?_ (F.args_tuple_hash_1 _)))
 show wpAny _ _ (Lj (.ref a)>>=_) _ _ s
 refine Aa (Ig ho hd ?_)
 refine Aa ?_
 rw[<-Et]
 refine En _
  (λrest(r:Array Int) s'=>(rest=[v,.ref b]/\r= (List.toArray [])/\s'=s)∨(rest=[.ref b]/\r= (List.toArray [knd.hash x.1])/\s'={s with toks:=s.toks+1})∨(rest=[]/\r= (List.toArray [knd.hash x.1,tupleKeyHash knd x.2])/\s'={s with toks:=s.toks+1+(x.2.length+1)}))
  _ ?_ ?_ _ _ (.inl #[rfl,rfl,rfl])
 ·rintro y rest r s' (⟨e,rfl,rfl⟩|⟨e,rfl,rfl⟩|⟨e,_,_⟩)
  ·obtain⟨rfl,rfl⟩:=Dh e
   refine Aa (knd.pyHash h1 ?_)
   exact Ac (.inr (.inl #[rfl,rfl,rfl]))
  ·obtain⟨rfl,rfl⟩:=Dh e
   refine Aa (wpAny_pyHash_tuple (show A.in1.units<cLine from hu) h2 ?_)
   exact Ac (.inr (.inr #[rfl,rfl,rfl]))
  ·cases e
 ·rintro r s' (⟨e,_,_⟩|⟨e,_,_⟩|⟨_,rfl,rfl⟩)
  ·cases e
  ·cases e
  ·show wpAny _ _ (retInt (Df [knd.hash x.1,tupleKeyHash knd x.2])) _ _ _
   refine wpAny_ret_mkInt ?_
   show wpAny _ _ (if(decide (-(2:Int) ^ 63<=Df [knd.hash x.1,tupleKeyHash knd x.2]) && decide (Df [knd.hash x.1,tupleKeyHash knd x.2]<2 ^ 63))=true then _ else _) Q E _
   have et:s.toks+1+(x.2.length+1)+1=s.toks+(x.2.length+3):=by lia
   unfold rW reduceHash at h
   by_cases hr:(decide (-(2:Int) ^ 63<=Df [knd.hash x.1,tupleKeyHash knd x.2]) && decide (Df [knd.hash x.1,tupleKeyHash knd x.2]<2 ^ 63))=true
   ·rw[if_pos hr]
    rw[if_pos hr, <-et]at h
    exact Ac h
   ·rw[if_neg hr]
    rw[if_neg hr, <-et]at h
    exact Aa (Hr (Ac h))
def aCx{x y:K×List K}{a b:Addr}{P:Fin->Shared->Prop}(hu:A.units<cLine)(hx:bN knd s.heap x a)(hy:bN knd s.heap y b)(h:P (.done (.ret (.bool (decide (x=y))))) s):
  #v[2] (Builtin.«tuple.__eq__» #[[.ref a,.ref b],[]]) P E s:=by
 have hTb:=hy.typeIs;obtain⟨oa,va,ba,na,hoa,_,hda,h1,h2⟩:=hx;obtain⟨ob,vb,bb,nb,hob,_,hdb,h1',h2'⟩:=hy;show wpAny _ _ (isInstance (.ref b) (.type "tuple")>>=_) _ _ s;refine Aa (Ed hTb Iz ?_)
 ac_rfl
 refine Aa (Ig hoa hda ?_);refine Aa (Ig hob hdb ?_);refine Aa ?_;refine En _
  (λrest r s'=>r.1=none/\s'=s/\((rest=[(va,vb),(.ref ba,.ref bb)])∨(rest=[(.ref ba,.ref bb)]/\x.1=y.1)∨(rest=[]/\x=y)))
  _ ?_ ?_ _ _ #[rfl,rfl,.inl rfl]
 ·rintro⟨u,v⟩ rest r s' ⟨hr,rfl,(e|⟨e,e1⟩|⟨e,_⟩)⟩
  ·obtain⟨e2,rfl⟩:=Dh e;cases e2;refine Aa (knd.eqBool (a:=x.1) (b:=y.1) h1 h1' ?_);by_cases hk:x.1=y.1
   ·rw[decide_eq_true hk]
    ac_rfl
    exact Ac #[by first|rfl|trivial,by first|rfl|trivial,by first|exact .inr (.inl #[rfl,hk])|simp[hk]]
   ·rw[decide_eq_false hk];simp only[Jn,if_true];have hf:decide (x=y)=false:=decide_eq_false λz=>hk (by rw[z]);rw[hf]at h;exact Aa (Ac (Ac (Ac h)))
  ·obtain⟨e2,rfl⟩:=Dh e;cases e2;refine Aa (wpAny_eqBool_tuple hu h2 h2' ?_);by_cases hk:x.2=y.2
   ·rw[decide_eq_true hk]
    ac_rfl
    exact Ac #[by first|rfl|trivial,by first|rfl|trivial,by first|exact .inr (.inr #[rfl,Ng e1 hk])|simp[e1,hk,Prod.ext_iff]]
   ·rw[decide_eq_false hk];simp only[Jn,if_true];have hf:decide (x=y)=false:=decide_eq_false λz=>hk (by rw[z]);rw[hf]at h;exact Aa (Ac (Ac (Ac h)))
  ·cases e
 ·rintro⟨r1,r2⟩ s' ⟨hr,rfl,(e|⟨e,_⟩|⟨_,e⟩)⟩
  ·cases e
  ·cases e
  ·simp only at hr;subst hr;refine Ac ?_;rw[decide_eq_true e]at h;exact h
def uR{x y:K×List K}{a b:Addr}(hu:A.units+1<cLine)(hx:bN knd s.heap x a)(hy:bN knd s.heap y b)(h:Q (decide (x=y)) s):
  #v[2] (eqBool (.ref a) (.ref b)) Q E s:=by
 unfold eqBool
 try with_reducible refine Bq ?_
 show wpAny _ _ (if(Ao a==Ao b)=true then _ else _) Q E s;by_cases hab:(Ao a==Ao b)=true
 ·rw[if_pos hab];have e:a=b:=by have:=eq_of_beq hab;injection this
  subst e;obtain rfl:=hx.inj hy;exact Aa (Hr (Ac (by simpa using h)))
 ·rw[if_neg hab];exact Aa (Po (op:=.Eq) hx.typeIs hy.typeIs Vr
   (Bl Vr hx.typeIs F.entry_tuple_eq (aCx (by show A.units+1<cLine;exact hu) hx hy #[_,rfl,(λe=>nomatch e),Dl h]) (F.args_tuple_eq_2 _ _)) ∅)
def qQ(hk:IsTupleKey knd s.heap ks a)(h:Q true s):#v[2] (eqIsQuiet (n+1) (.ref a)) Q E s:=by
 have hT:=hk.typeIs;obtain⟨o,items,m,ho,_,hd,hi⟩:=hk;unfold eqIsQuiet;refine Aa (Eb hT F.slot_tuple_eq.lookup ?_);show wpAny _ _ (isInstance (.ref a) (.type "tuple")>>=_) _ _ s;refine Aa (Ed hT Iz ?_)
 ac_rfl
 refine Aa (Cp ho hd ?_);refine Aa ?_;show wpAny _ _ (forIn items _ _) _ _ s;rw[<-Et];refine En _ (λrest r s'=>r.1=none/\s'=s/\∀v∈rest,carriedByValue v=true) _ ?_ ?_ _ _ #[rfl,rfl,hi.byValue]
 ·rintro v rest r s' ⟨hr,rfl,hall⟩;rw[Vh _ (hall v Ah)];refine Aa (Ac ?_)
  ac_rfl
  exact Ac #[rfl,rfl,λu hu'=>hall u (Af _ hu')]
 ·rintro⟨r1,r2⟩ s' ⟨hr,rfl,_⟩;simp only at hr;subst hr;exact Ac h
def rK{x:K×List K}(hk:bN knd s.heap x a)(h:Q true s):#v[2] (eqIsQuiet 8 (.ref a)) Q E s:=by
 have hT:=hk.typeIs;obtain⟨o,v,b,m,ho,_,hd,h1,h2⟩:=hk;unfold eqIsQuiet;refine Aa (Eb hT F.slot_tuple_eq.lookup ?_);show wpAny _ _ (isInstance (.ref a) (.type "tuple")>>=_) _ _ s;refine Aa (Ed hT Iz ?_)
 ac_rfl
 refine Aa (Cp ho hd ?_);refine Aa ?_;show wpAny _ _ (forIn _ _ _) _ _ s;rw[<-Et];refine En _ (λrest r s'=>r.1=none/\s'=s/\∀u∈rest,u=v∨u=.ref b) _ ?_ ?_ _ _ #[rfl,rfl,λu hu=>by simpa using hu]
 ·rintro u rest r s' ⟨hr,rfl,hall⟩;rcases hall u Ah with rfl|rfl
  ·rw[Vh _ (knd.byValue _ _ h1)];refine Aa (Ac ?_)
   ac_rfl
   exact Ac #[rfl,rfl,λu hu'=>hall u (Af _ hu')]
  ·refine Aa (qQ h2 ?_)
   ac_rfl
   exact Ac #[rfl,rfl,λu hu'=>hall u (Af _ hu')]
 ·rintro⟨r1,r2⟩ s' ⟨hr,rfl,_⟩;simp only at hr;subst hr;exact Ac h
end
def cY{prog:Program}{w:World}{K:Type} [DecidableEq K](knd:KeyKind prog w K):HeapKind prog w (K×List K) where
 is:=bN knd
 hash:=rW knd
 draws:=λx=>x.2.length+3
 room:=λA=>A.units+1<cLine
 inj:=λhx hy=>hx.inj hy
 keeps:=λx ho hd hs=>x.keeps ho hd hs
 pyHash:=λhu hk h=>uZ hu hk h
 eqBool:=λhu hx hy h=>uR hu hx hy h
 quiet:=λhk h=>rK hk h
namespace SetTable
def iU(mask:Nat):Nat->Nat×Nat->Nat×Nat
 |0,p=>p
 |m+1,p=>iU mask m (leap mask p.1 p.2)
theorem tO(mask:Nat):∀m p,(iU mask m p).2=p.2 / 32 ^ m
 |0,p=>by rw[iU,Nat.pow_zero,Nat.div_one]
 |m+1,p=>by
  rw[iU,tO mask m];show p.2 / 32 / 32 ^ m=_;rw[Nat.div_div_eq_div_mul,Nat.pow_succ,Wk]
theorem aCg(mask:Nat):∀m k p,iU mask (m+k) p=iU mask k (iU mask m p)
 |0,k,p=>by rw[Ij,iU]
 |m+1,k,p=>by rw[Wj,iU,aCg mask m k,iU]
def five(mask i:Nat):Nat:=(i*5+1) % (mask+1)
def aE8(mask:Nat):Nat->Nat->Nat
 |0,i=>i
 |m+1,i=>aE8 mask m (five mask i)
theorem zR(mask:Nat):∀m i,(iU mask m (i,0))=(aE8 mask m i,0)
 |0,i=>rfl
 |m+1,i=>by
  rw[iU,aE8];show iU mask m ((i*5+1+0 / 32) % (mask+1),0 / 32)=_;rw[Nat.zero_div,Nat.add_zero];exact zR mask m (five mask i)
theorem aE7(mask:Nat):∀m p,(iU mask (m+1) p).1<=mask
 |0,p=>by
  show(p.1*5+1+p.2 / 32) % (mask+1)<=mask;have:=Pi (p.1*5+1+p.2 / 32) (show 0<mask+1 by lia)
  lia
 |m+1,p=>by rw[iU];exact aE7 mask m _
def Round(mask:Nat):Prop:=∀i,i<=mask->∀e,e<=mask->∃k,k<=mask/\aE8 mask (k+1) i=e
def aOm{mask:Nat}(h:∀i:_root_.Fin (mask+1),∀e:_root_.Fin (mask+1),∃k:_root_.Fin (mask+1),aE8 mask (k.1+1) i.1=e.1):Round mask:=λi hi e he=>by
 obtain⟨k,hk⟩:=h #[i,∅] #[e,∅];exact#[k.1,∅,hk]
def aW2:Round 7:=aOm #v[5]
def aHk{mask:Nat}(R:Round mask)(he:e<=mask)(i perturb:Nat)(hp:perturb<2 ^ 64):∃L,1<=L/\L<=mask+14/\(iU mask L (i,perturb)).1=e:=by
 have h13:(iU mask 13 (i,perturb)).2=0:=by
  rw[tO];exact Nat.div_eq_of_lt (Be hp ⋯)
 have hi:=aE7 mask 12 (i,perturb);obtain⟨k,hk,e1⟩:=R _ hi e he;refine#[13+(k+1),∅,∅,?_];rw[aCg];have e2:iU mask 13 (i,perturb)=((iU mask 13 (i,perturb)).1,0):=Ng rfl h13;rw[e2,zR];exact e1
variable {t:SetTable}{hashAt:Nat->Int}{h:Int}
def aQp(mask i:Nat):runEnd mask i-i<=9:=by unfold runEnd;split<;>lia
def aR7(hd:∀j,t.slot j≠.dummy)(he:t.slot e=.empty):∀(fuel:Nat)(p:Probe)(L:Nat),1<=L->(iU t.mask L (p.i,p.perturb)).1=e->p.more+2+10*(L-1)<=fuel->∃m,Jl t hashAt h fuel p=some m:=by
 intro fuel;induction fuel with
 |zero=>intro p L h1 _ h3;lia
 |succ fuel ih=>
  intro p L h1 h2 h3;have step:∃m,Jl t hashAt h fuel (t.advance p)=some m:=by
   unfold advance;by_cases hm:p.more>0
   ·rw[if_pos hm];exact ih _ L h1 h2 (by show p.more-1+2+10*(L-1)<=fuel;lia)
   ·rw[if_neg hm];match L,h1 with
    |1,_=>
     have h4:(leap t.mask p.i p.perturb).1=e:=h2;cases fuel with
     |zero=>lia
     |succ f=>
      show∃m,(match t.slot (leap t.mask p.i p.perturb).1 with|.empty=>_|.dummy=>_|.live i=>_)=some m;rw[h4,he];exact#[_,rfl]
    |L+2,_=>
     have hr:=aQp t.mask (leap t.mask p.i p.perturb).1;exact ih _ (L+1) ∅ h2 (by show runEnd t.mask (leap t.mask p.i p.perturb).1-(leap t.mask p.i p.perturb).1+2+10*(L+1-1)<=fuel;lia)
  show∃m,(match t.slot p.j with|.empty=>some (.empty p.j p.dummy)|.dummy=>Jl t hashAt h fuel (t.advance {p with dummy:=some p.j})|.live i=>if(hashAt i==h)=true then some (.candidate p.j i (t.advance p))else Jl t hashAt h fuel (t.advance p))=some m;cases hs:t.slot p.j with
  |empty=>exact#[_,rfl]
  |dummy=>exact absurd hs (hd _)
  |live i=>
   by_cases hh:(hashAt i==h)=true
   ·exact#[_,if_pos hh]
   ·obtain⟨m,hm⟩:=step;exact#[m,by simp only;rw[if_neg hh];exact hm]
def aGu(R:Round t.mask)(he:e<=t.mask)(hd:∀j,t.slot j≠.dummy)(hs:t.slot e=.empty)(p:Probe)(hp:p.perturb<2 ^ 64)(hm:p.more<=9):∃m,t.probe hashAt h p=some m:=by
 obtain⟨L,h1,h2,h3⟩:=aHk R he p.i p.perturb hp;refine aR7 hd hs _ p L h1 h3 ?_;unfold turns
 lia
def uE(xs:Array Nat):Prop:=∀i k,i<k->k<xs.size->xs.getD i 0<xs.getD k 0
def aA4{i a b:Nat}(h:i<xs.size):xs.getD i a=xs.getD i b:=by simp[Iy,h]
def aPq(R:uE xs):∀(fuel lo hi:Nat),lo<=hi->hi<=xs.size->hi-lo<=fuel->(∀i,i<lo->xs.getD i 0<j)->(∀i,hi<=i->i<xs.size->j<=xs.getD i 0)->
  Mq xs j fuel lo hi<=xs.size/\(∀i,i<Mq xs j fuel lo hi->xs.getD i 0<j)/\∀i,Mq xs j fuel lo hi<=i->i<xs.size->j<=xs.getD i 0:=by
 intro fuel;induction fuel with
 |zero=>
  intro lo hi h1 h2 h3 a b;have:lo=hi:=by lia
  subst this;exact#[h2,a,b]
 |succ fuel ih=>
  intro lo hi h1 h2 h3 a b;have key:Mq xs j (fuel+1) lo hi=if lo<hi then(if xs.getD ((lo+hi) / 2) j<j then Mq xs j fuel ((lo+hi) / 2+1) hi else Mq xs j fuel lo ((lo+hi) / 2))else lo:=rfl
  rw[key];by_cases hl:lo<hi
  ·have hm:(lo+hi) / 2<xs.size:=by lia
   rw[if_pos hl];by_cases hx:xs.getD ((lo+hi) / 2) j<j
   ·rw[if_pos hx];refine ih _ _ ∅ h2 ∅ (λi hi'=>?_) b;by_cases e:i=(lo+hi) / 2
    ·subst e;rw[aA4 hm (b:=j)];exact hx
    ·have:=R i ((lo+hi) / 2) ∅ hm;rw[aA4 hm (b:=j)]at this
     lia
   ·rw[if_neg hx];refine ih _ _ ∅ ∅ ∅ a λi hi' hs=>?_;rw[aA4 hm (b:=0)]at hx;by_cases e:i=(lo+hi) / 2
    ·subst e;lia
    ·have:=R ((lo+hi) / 2) i ∅ hs
     lia
  ·have:lo=hi:=by lia
   subst this;rw[if_neg hl];exact#[h2,a,b]
def iQ(R:uE xs)(j:Nat):below xs j<=xs.size/\(∀i,i<below xs j->xs.getD i 0<j)/\∀i,below xs j<=i->i<xs.size->j<=xs.getD i 0:=
 aPq R _ _ _ (Bg _) (Aj _) ∅ (λi h=>absurd h (Dz i)) λi h1 h2=>by lia
def below_at(R:uE xs)(h:i<xs.size):below xs (xs.getD i 0)=i:=by
 obtain⟨_,h2,h3⟩:=iQ R (xs.getD i 0);rcases He (below xs (xs.getD i 0)) i with z|z|z
 ·have:=h3 (below xs (xs.getD i 0)) (Aj _) ∅;have:=R _ i z h
  lia
 ·exact z
 ·have:=h2 i z
  lia
def aNj{i j:Nat}:xs[i]? =some j↔i<xs.size/\xs.getD i 0=j:=by
 by_cases h:i<xs.size
 ·simp[Iy,h]
 ·simp[h]
def aCk(R:uE t.place){i j:Nat}(h:t.place[i]? =some j):t.slot j=.live i:=by
 obtain⟨h1,rfl⟩:=aNj.mp h;unfold slot;dsimp only;rw[below_at R h1,h];simp
def aG0(hd:t.dummies= (List.toArray []))(h:∀i:Nat,t.place[i]? ≠some j):t.slot j=.empty:=by
 unfold slot;dsimp only;have h1:(t.place[below t.place j]? ==some j)=false:=beq_eq_false_iff_ne.mpr (h _);rw[h1];have h2:has t.dummies j=false:=by rw[hd];unfold has;simp
 rw[h2];rfl
theorem uL(hd:t.dummies= (List.toArray []))(j:Nat):t.slot j=.empty∨∃i:Nat,t.slot j=.live i/\t.place[i]? =some j:=by
 have:has (List.toArray []) j=false:=by simp[has]
 grind [slot]
def qO(hd:t.dummies= (List.toArray []))(j:Nat):t.slot j≠.dummy:=by
 rcases uL hd j with e|⟨i,e,_⟩<;>rw[e]<;>intro z<;>cases z
def aIb(hd:t.dummies= (List.toArray []))(hs:t.place.size<=t.mask):∃e,e<=t.mask/\t.slot e=.empty:=by
 refine Cy λno=>?_;have all:∀e,e<=t.mask->∃i:Nat,t.place[i]? =some e:=λe he=>by
  rcases uL hd e with z|⟨i,_,z⟩
  ·exact absurd #[e,he,z] no
  ·exact#[i,z]
 have sub:Bh (t.mask+1) ⊆ t.place.toList:=λe he=>by
  obtain⟨i,hi⟩:=all e (by have:=List.mem_range.mp he;lia);obtain⟨h1,h2⟩:=Array.getElem?_eq_some_iff.mp hi;rw[<-h2];simp
 have:=(Fh (n:=t.mask+1)).length_le_of_subset sub;rw[Cw,As]at this
 lia
def aF0(R:Round t.mask)(hd:t.dummies= (List.toArray []))(hs:t.place.size<=t.mask)(p:Probe)(hp:p.perturb<2 ^ 64)(hm:p.more<=9):∃m,t.probe hashAt h p=some m:=by
 obtain⟨e,he,h1⟩:=aIb hd hs;exact aGu R he (qO hd) h1 p hp hm
def adv(mask:Nat)(p:Probe):Probe:=if p.more>0 then{p with j:=p.j+1,more:=p.more-1}else{p with j:=(leap mask p.i p.perturb).1,more:=runEnd mask (leap mask p.i p.perturb).1-(leap mask p.i p.perturb).1,i:=(leap mask p.i p.perturb).1,perturb:=(leap mask p.i p.perturb).2}
def advs(mask:Nat):Nat->Probe->Probe
 |0,p=>p
 |n+1,p=>advs mask n (adv mask p)
theorem aEo(mask:Nat):∀m k p,advs mask (m+k) p=advs mask k (advs mask m p)
 |0,k,p=>by rw[Ij,advs]
 |m+1,k,p=>by rw[Wj,advs,aEo mask m k,advs]
def aCi(mask:Nat)(p:Probe):(adv mask p).dummy=p.dummy:=by unfold adv;split<;>rfl
def aT1(fuel:Nat)(p:Probe):Jl t hashAt h (fuel+1) p=match t.slot p.j with|.empty=>some (.empty p.j p.dummy)|.dummy=>Jl t hashAt h fuel (t.advance {p with dummy:=some p.j})|.live i=>if(hashAt i==h)=true then some (.candidate p.j i (t.advance p))else Jl t hashAt h fuel (t.advance p):=rfl
def aRz(hd:∀j,t.slot j≠.dummy):∀(fuel:Nat)(p:Probe)(N:Nat),t.slot (advs t.mask N p).j=.empty->N<fuel->p.dummy=none->
    ∃n,n<=N/\(∀m,m<n->∃i,t.slot (advs t.mask m p).j=.live i/\hashAt i≠h)/\
      ((t.slot (advs t.mask n p).j=.empty/\Jl t hashAt h fuel p=some (.empty (advs t.mask n p).j none))∨
       ∃i,t.slot (advs t.mask n p).j=.live i/\hashAt i=h/\Jl t hashAt h fuel p=some (.candidate (advs t.mask n p).j i (advs t.mask (n+1) p))):=by
  intro fuel;induction fuel with
  |zero=>intro p N _ h2;lia
  |succ fuel ih=>
    intro p N h1 h2 h3;rw[aT1];cases hs:t.slot p.j with
    |empty=>exact#[0,Bg _,λm hm=>absurd hm (Dz m),.inl #[hs,by rw[h3];rfl]]
    |dummy=>exact absurd hs (hd _)
    |live i=>
      by_cases hh:hashAt i=h
      · exact#[0,Bg _,λm hm=>absurd hm (Dz m),.inr #[i,hs,hh,by dsimp only;rw[if_pos (beq_iff_eq.mpr hh)];rfl]]
      · cases N with
        |zero=>
          have h1':t.slot p.j=.empty:=h1;rw[hs]at h1';cases h1'
        |succ N=>
          obtain⟨n,a1,a2,a3⟩:=ih (adv t.mask p) N h1 ∅ (by rw[aCi];exact h3);have hb:¬(hashAt i==h)=true:=λz=>hh (beq_iff_eq.mp z);refine#[n+1,∅,λm hm=>?_,?_]
          · cases m with
            |zero=>exact#[i,hs,hh]
            |succ m=>exact a2 m ∅
          · rcases a3 with ⟨b1,b2⟩|⟨i',b1,b2,b3⟩
            · exact .inl #[b1,by dsimp only;rw[if_neg hb];exact b2]
            · exact .inr #[i',b1,b2,by dsimp only;rw[if_neg hb];exact b3]
def aMb(hn:∀i,hashAt i≠h)(hd:∀j,t.slot j≠.dummy):∀(fuel:Nat)(p:Probe)(m:Met),Jl t hashAt h fuel p=some m->∃N,N<fuel/\t.slot (advs t.mask N p).j=.empty:=by
 intro fuel;induction fuel with
 |zero=>intro p m e;cases e
 |succ fuel ih=>
  intro p m e;rw[aT1]at e;cases hs:t.slot p.j with
  |empty=>exact#[0,Qn _,hs]
  |dummy=>exact absurd hs (hd _)
  |live i=>
   rw[hs]at e;dsimp only at e;rw[if_neg (λz=>hn i (beq_iff_eq.mp z))]at e;obtain⟨N,h1,h2⟩:=ih _ _ e;exact#[N+1,∅,h2]
def aH5(R:Round t.mask)(hd:t.dummies= (List.toArray []))(hs:t.place.size<=t.mask)(p:Probe)(hp:p.perturb<2 ^ 64)(hm:p.more<=9):∃N,N<10*turns t.mask/\t.slot (advs t.mask N p).j=.empty:=by
 obtain⟨m,e⟩:=aF0 (hashAt:=λ_=>1) (h:=0) R hd hs p hp hm;exact aMb (hashAt:=λ_=>1) (h:=0) (λ_=>by decide) (qO hd) _ p m e
def aEs(t:SetTable)(h:Int):#v[S].perturb<2 ^ 64/\#v[S].more<=9:=by
 refine#[?_,aQp _ _];show bits h<2 ^ 64;unfold bits;have h1:=Oe h (show((2:Int) ^ 64)≠0 by decide);have h2:=Me h (show(0:Int)<2 ^ 64 by decide)
 lia
def tZ(t:SetTable)(h:Int)(j:Nat):Prop:=∃n,(advs t.mask n #v[S]).j=j/\∀m,m<n->t.slot (advs t.mask m #v[S]).j≠.empty
def tZ.ahead{j N:Nat}(w:tZ t h j)(hj:t.slot j≠.empty)(hN:t.slot #v[91].j=.empty):∃n,n<N/\(advs t.mask n #v[S]).j=j:=by
 obtain⟨n,e,a⟩:=w;rcases He n N with z|z|z
 ·exact#[n,z,e]
 ·subst z;rw[e]at hN;exact absurd hN hj
 ·exact absurd hN (a N z)
def fK(xs:Array α)(p:Nat)(x:α):(insertAt xs p x).toList=xs.toList.take p++x::xs.toList.drop p:=by
 unfold insertAt;simp[Array.toList_extract];exact El (by simp)
def aFu:uE xs↔xs.toList.Pairwise (·<·):=by
 rw[On];constructor
 ·intro R i k hi hk hik;have h2:k<xs.size:=by simpa using hk
  have:=R i k hik h2;have h1:i<xs.size:=by lia
  simpa[Iy,h1,h2]using this
 ·intro R i k hik hk;have h1:i<xs.size:=by lia
  have:=R i k (by simpa using h1) (by simpa using hk) hik;simpa[Iy,h1,hk]using this
def aJ9:(∃i:Nat,t.place[i]? =some j)↔j∈t.place.toList:=by
 rw[List.mem_iff_getElem?];simp
def jN(R:uE t.place)(hd:t.dummies= (List.toArray [])):t.slot j=.empty↔j∉t.place.toList:=by
 rw[<-aJ9];constructor
 ·rintro e ⟨i,hi⟩;rw[aCk R hi]at e;cases e
 ·intro no;exact aG0 hd λi z=>no #[i,z]
def aFm(R:uE t.place)(hj:j∉t.place.toList):uE (insertAt t.place (below t.place j) j):=by
 obtain⟨hb,h1,h2⟩:=iQ R j;rw[aFu,fK];have Rl:=aFu.mp R;have lo:∀x∈t.place.toList.take (below t.place j),x<j:=λx hx=>by
  obtain⟨i,hi,e⟩:=Gc hx;rw[Eu]at hi;rw[List.getElem_take]at e;have hs:i<t.place.size:=by simp at hi;lia
  have:=h1 i ∅;rw[<-e];simpa[Iy,hs]using this
 have hi':∀x∈t.place.toList.drop (below t.place j),j<x:=λx hx=>by
  have hm:x∈t.place.toList:=Iu hx;obtain⟨i,hi,e⟩:=Gc hx;rw[Ej]at hi;rw[List.getElem_drop]at e;have hs:below t.place j+i<t.place.size:=by simp at hi;lia
  have:=h2 (below t.place j+i) ∅ hs;have h3:j<=x:=by rw[<-e];simpa[Iy,hs]using this
  have h4:j≠x:=λz=>hj (z▸hm)
  lia
 rw[List.pairwise_append];refine#[Rl.sublist (Mj _ _),List.pairwise_cons.mpr #[hi',Rl.sublist (List.drop_sublist _ _)],λx hx y hy=>?_];have:=lo x hx;rcases List.mem_cons.mp hy with e|m
 ·lia
 ·have:=hi' y m;lia
def jY(hd:t.dummies= (List.toArray []))(j:Nat):t.put j=({t with place:=insertAt t.place (below t.place j) j},below t.place j):=by
 unfold put;have h2:has t.dummies j=false:=by rw[hd];unfold has;simp
 rw[h2];rfl
theorem zQ{p j x:Nat}:x∈(insertAt xs p j).toList↔x=j∨x∈xs.toList:=by rw[fK];have:=Ep p xs.toList;grind
def nP(xs:Array α)(x:α)(h:p<=xs.size):(insertAt xs p x).size=xs.size+1:=by
 rw[<-As,fK,Al,Am,Eu,Ej,As]
 lia
structure Good(t:SetTable):Prop where
 dum:t.dummies= (List.toArray [])
 rise:uE t.place
 low:∀j∈t.place.toList,j<=t.mask
 room:t.place.size<=t.mask
 round:Round t.mask
def Good.put(G:Good t)(hj:t.slot j=.empty)(hl:j<=t.mask)(hr:t.place.size+1<=t.mask):Good (t.put j).1:=by
 rw[jY G.dum];have nj:=(jN G.rise G.dum).mp hj;refine#[G.dum,aFm G.rise nj,λx hx=>?_,?_,G.round]
 ·rcases zQ.mp hx with e|m
  ·rw[e];exact hl
  ·exact G.low x m
 ·show(insertAt t.place (below t.place j) j).size<=t.mask;rw[nP _ _ (iQ G.rise j).1];exact hr
def Good.put_empty(G:Good t)(hj:t.slot j=.empty)(x:Nat):(t.put j).1.slot x=.empty↔t.slot x=.empty/\x≠j:=by
 have nj:=(jN G.rise G.dum).mp hj;rw[jY G.dum];rw[jN (t:={t with place:=insertAt t.place (below t.place j) j}) (aFm G.rise nj) G.dum,jN G.rise G.dum];show x∉(insertAt t.place (below t.place j) j).toList↔_;rw[zQ,not_or];exact#[λz=>#[z.2,z.1],λz=>#[z.2,z.1]]
def tZ.put(G:Good t){j x:Nat}(hj:t.slot j=.empty)(w:tZ t h x):tZ (t.put j).1 h x:=by
 obtain⟨n,e,a⟩:=w;have em:(t.put j).1.mask=t.mask:=by rw[jY G.dum]
 have es:(t.put j).1.probeStart h=t.probeStart h:=by rw[jY G.dum];rfl
 refine#[n,by rw[em,es];exact e,λm hm z=>?_];rw[em,es]at z;exact a m hm ((G.put_empty hj _).mp z).1
def tZ.new(G:Good t)(hj:t.slot #v[91].j=.empty)(a:∀m,m<N->t.slot (advs t.mask m #v[S]).j≠.empty):tZ (t.put #v[91].j).1 h #v[91].j:=by
 have em:(t.put #v[91].j).1.mask=t.mask:=by rw[jY G.dum]
 have es:(t.put #v[91].j).1.probeStart h=t.probeStart h:=by rw[jY G.dum];rfl
 refine#[N,by rw[em,es],λm hm z=>?_];rw[em,es]at z;exact a m hm ((G.put_empty hj _).mp z).1
end SetTable
section
variable {prog:Program}{w:World}{K:Type} [DecidableEq K](knd:#v[59])
structure pM(s:Shared)(a:Addr)(o:Obj)(es:#v[63])(ep:Nat)(t:SetTable)(xs:List (K×Addr)):Prop where
 ho:s.heap.get? a=some o
 hex:o.ExactSet
 hd:o.data=.set es ep t
 he:es.toList=xs.map λx=>(knd.hash x.1,Ao x.2)
 good:t.Good
 size:t.place.size=es.size
 keys:∀x∈xs,knd.is s.heap x.1 x.2
 nd:(xs.map (·.1)).Nodup
 way:∀(i j:Nat)(x:K×Addr),t.place[i]? =some j->xs[i]? =some x->SetTable.tZ t (knd.hash x.1) j
variable {knd}{A:Around}{E:#v[7]}{s:Shared}{a b:Addr}{o:Obj}{es:#v[63]}{ep:Nat}{t:SetTable}{xs:List (K×Addr)}{k:K}
structure tU(knd:#v[59]):Prop where
 mono:∀{h h':Heap}{k:K}{c:Addr},knd.is h k c->(∀b o,o.cls=.type "tuple"->h.get? b=some o->h'.get? b=some o)->knd.is h' k c
 byValue:∀{A:Around}{E:#v[7]}{s:Shared}{k:K}{c:Addr}{Q:Bool->Shared->Prop},knd.is s.heap k c->Q true s->#v[2] (hashByValue 8 (.ref c)) Q E s
 plain:∀{A:Around}{E:#v[7]}{s:Shared}{k:K}{c:Addr}{Q:Bool->Shared->Prop},knd.is s.heap k c->Q false s->#v[2] (ofAClassStatement 8 (.ref c)) Q E s
def tU.keep(D:tU knd){k:K}{o:Obj}(hx:knd.is h k c)(ho:h.get? d=some o)(hex:o.ExactSet)(sb:Dv d h h'):knd.is h' k c:=D.mono hx λb o' hc e=>by
 have ne:b≠d:=by
  rintro rfl;rw[ho]at e;cases e;rw[hex.1]at hc;exact absurd hc ⋯
 rw[sb.2 b ne];exact e
def yF(D:tU knd)(hkey:knd.is s.heap k b)(hy:∀y∈ys,∃x c,y=Ao c/\knd.is s.heap x c)(h:Q false s):#v[2] (searchCouldBeSeen (.ref b) ys) Q E s:=by
 unfold searchCouldBeSeen;refine Aa ?_;refine En _ (λrest r s'=>r.1=none/\s'=s/\∀v∈rest,∃x c,v=Ao c/\knd.is s.heap x c) _ ?_ ?_ _ _ #[rfl,rfl,hy]
 ·rintro v rest r s' ⟨hr,rfl,hall⟩;obtain⟨x,c,rfl,hx⟩:=hall v Ah;dsimp only;have nx:∀u∈rest,∃x c,u=Ao c/\knd.is s'.heap x c:=λu hu=>hall u (Af _ hu);split
  ·exact Ac #[rfl,rfl,nx]
  ·refine Aa (knd.quiet hkey ?_)
   ac_rfl
   refine Aa (knd.quiet hx ?_)
   ac_rfl
   refine Aa (D.plain hkey ?_)
   ac_rfl
   refine Aa (D.plain hx ?_)
   ac_rfl
   exact Ac #[rfl,rfl,nx]
 ·rintro⟨r1,r2⟩ s' ⟨hr,rfl,_⟩;simp only at hr;subst hr;exact Ac h
def pM.fits(S:pM knd s a o es ep t xs):t.fits es.size=true:=by
 unfold Nj Nk;have h1:=S.size;have h2:=S.good.room;rw[S.good.dum];simp[h1]
 lia
def pM.len(S:pM knd s a o es ep t xs):es.size=xs.length:=by rw[<-As,S.he,Ab]
def pM.entry(S:pM knd s a o es ep t xs)(i:Nat):es[i]? =(xs[i]?).map λx=>(knd.hash x.1,Ao x.2):=by
 rw[<-Cj,S.he,Ay]
def pM.even(S:pM knd s a o es ep t xs)(hm:t.mask % 2=1):t.gaveWay=false:=by
 unfold SetTable.gaveWay;rw[hm];rfl
def vD(S:pM knd s a o es ep t xs)(hm:t.mask % 2=1)(D:tU knd)(hu:knd.room A)(hkey:knd.is s.heap k b)(hN:t.slot #v[1].j=.empty)(hF:N<10*Kn t.mask)
  (first:∀m,m<N->t.slot (SetTable.advs t.mask m #v[m]).j≠.empty) {Q:SetFound->Shared->Prop} (hold:(∃x∈xs,x.1=k)->Q (.there none) s) (hnew:(∀x∈xs,x.1≠k)->Q (.free #v[1].j false) s):
  ∀(fuel n:Nat)(stand:Option SetTable.Probe),stand.getD #v[m]=SetTable.advs t.mask n #v[m]->n<=N->N-n<fuel->(∀m,m<n->∃(i:Nat)(x:K×Addr),t.slot (SetTable.advs t.mask m #v[m]).j=.live i/\xs[i]? =some x/\x.1≠k)->
   #v[2] (setSearchFrom a (.ref b) (knd.hash k) true fuel stand) Q E s:=by
 intro fuel;induction fuel with
 |zero=>intro n stand _ _ h3;lia
 |succ fuel ih=>
  intro n stand h1 h2 h3 past;have dumA:∀m p,(SetTable.advs t.mask m p).dummy=p.dummy:=by
   intro m;induction m with
   |zero=>intro p;rfl
   |succ m ih=>intro p;rw[SetTable.advs,ih,SetTable.aCi]
  unfold setSearchFrom;refine Aa (Ff S.ho S.hd S.fits ?_);dsimp only;rw[S.even hm]
  ac_rfl
  rw[h1];have comp:∀m,SetTable.advs t.mask m #v[84]=SetTable.advs t.mask (n+m) #v[m]:=λm=>(SetTable.aEo t.mask n m _).symm;have ent:∀i:Nat,(es[i]?.map (·.1)).getD 0=((xs[i]?).map λx=>knd.hash x.1).getD 0:=λi=>by
   rw[S.entry i,Option.map_map];rfl
  have inx:∀(i j:Nat),t.slot j=.live i->∃x,xs[i]? =some x/\t.place[i]? =some j:=λi j hs=>by
   rcases SetTable.uL S.good.dum j with z|⟨i',z1,z2⟩
   ·rw[hs]at z;cases z
   ·rw[hs]at z1;cases z1;have hi:i<t.place.size:=(Array.getElem?_eq_some_iff.mp z2).1;rw[S.size,S.len]at hi;exact#[xs[i],Ag hi,z2]
  obtain⟨n',a1,a2,a3⟩:=SetTable.aRz (t:=t) (hashAt:=λi:Nat=>(es[i]?.map (·.1)).getD 0) (h:=knd.hash k) (SetTable.qO S.good.dum) (10*Kn t.mask) #v[84] (N-n) (by rw[comp,show n+(N-n)=N by lia];exact hN) ∅ (by rw[dumA];rfl);rw[comp]at a3;rcases a3 with ⟨b1,b2⟩|⟨i,b1,b2,b3⟩
  ·have eN:n+n'=N:=by
    rcases Mr (n+n') N with z|z
    ·exact absurd b1 (first _ z)
    ·lia
   have e:t.probe (λi:Nat=>(es[i]?.map (·.1)).getD 0) (knd.hash k) #v[84]=some (.empty (SetTable.advs t.mask (n+n') #v[m]).j none):=b2
   erw[e]
   dsimp only;rw[eN];refine Ac (hnew λx hx ek=>?_);obtain⟨i,hi⟩:=List.mem_iff_getElem?.mp hx;have his:i<t.place.size:=by rw[S.size,S.len];exact(List.getElem?_eq_some_iff.mp hi).1
   have hpl:t.place[i]? =some t.place[i]:=Bm his;have hsl:=SetTable.aCk S.good.rise hpl;have wy:=S.way i _ x hpl hi;rw[ek]at wy;obtain⟨m,hm1,hm2⟩:=wy.ahead (by rw[hsl];intro z;cases z) hN;rcases Mr m n with z|z
   ·obtain⟨i',x',c1,c2,c3⟩:=past m z;rw[hm2,hsl]at c1;cases c1;rw[hi]at c2;cases c2;exact c3 ek
   ·obtain⟨i',c1,c2⟩:=a2 (m-n) ∅;rw[comp,show n+(m-n)=m by lia,hm2,hsl]at c1;cases c1;rw[ent,hi]at c2;exact c2 (by rw[<-ek];rfl)
  ·obtain⟨x,hx,hpl⟩:=inx i _ b1;have hxm:=Ai hx;have e:t.probe (λi:Nat=>(es[i]?.map (·.1)).getD 0) (knd.hash k) #v[84]=some (.candidate (SetTable.advs t.mask (n+n') #v[m]).j i (SetTable.advs t.mask (n'+1) #v[84])):=b3
   erw[e]
   dsimp only;cases hl:t.led
   focus
    simp only[Jn,if_true];refine Aa (yF D hkey (λy hy=>?_) ?_);obtain⟨e,he,rfl⟩:=List.mem_map.mp hy;have he2:=(Array.mem_filter.mp (Array.mem_toList_iff.mp he)).1;rw[<-Array.mem_toList_iff,S.he]at he2;obtain⟨x',hx',rfl⟩:=List.mem_map.mp he2;exact#[_,_,rfl,S.keys x' hx']
    ac_rfl
   rotate_left
   focus
    ac_rfl
   all_goals
    rw[S.entry i,hx];dsimp only[Hu];refine Aa (Bq (knd.eqBool hu (S.keys x hxm) hkey ?_));refine Aa (Ff S.ho S.hd S.fits ?_);by_cases ek:x.1=k
    ·rw[decide_eq_true ek];simp only[Bool.and_self,if_true];exact Ac (hold #[x,hxm,ek])
    ·rw[decide_eq_false ek];simp only[Hq,Cm,if_false];have sm:t.sameMemory t.moves t.mask=some true:=by unfold SetTable.sameMemory;simp
     rw[sm];simp only[if_true];rw[b1];dsimp only;rw[S.entry i,hx];dsimp only[Hu];refine Aa (wpAny_isSame_ref_self ?_);simp only[if_true];refine Aa (Ac ?_);dsimp only;have lt:n+n'<N:=by
      rcases Mr (n+n') N with z|z
      ·exact z
      ·have z2:n+n'=N:=by lia
       rw[z2,hN]at b1;cases b1
     refine ih (n+(n'+1)) _ (by show SetTable.advs t.mask (n'+1) _=_;rw[comp]) ∅ ∅ λm hm'=>?_;rcases Mr m n with z|z
     ·exact past m z
     ·by_cases z2:m=n+n'
      ·subst z2;exact#[i,x,b1,hx,ek]
      ·obtain⟨i',c1,c2⟩:=a2 (m-n) ∅;rw[comp,show n+(m-n)=m by lia]at c1;obtain⟨x',hx',_⟩:=inx i' _ c1;refine#[i',x',c1,hx',λek'=>c2 ?_];rw[ent,hx', <-ek'];rfl
def aDm{o:Obj}(es':#v[63])(t':SetTable)(hd:o.data=.set es ep t)(h:o.ExactSet):(Lb es' t' o).ExactSet:=by
 rw[Pp es' t' hd];exact h
theorem get_ins{l:List α}{p i:Nat}{y x:α}(hp:p<=l.length)(h:(l.take p++x::l.drop p)[i]? =some y):(i<p/\l[i]? =some y)∨(i=p/\y=x)∨(p<i/\l[i-1]? =some y):=by grind
def pM.add(S:pM knd s a o es ep t xs)(hkey:knd.is s.heap k b)(hn:∀x∈xs,x.1≠k)(hkeep:∀h',Dv a s.heap h'->∀x c,knd.is s.heap x c->knd.is h' x c)(hN:t.slot #v[1].j=.empty)
  (first:∀m,m<N->t.slot (SetTable.advs t.mask m #v[m]).j≠.empty) (hl:#v[1].j<=t.mask) (hroom:t.place.size+1<=t.mask) {j p:Nat} (ej:j=#v[1].j) (epp:p=Cz t.place j):
  pM knd {s with heap:=s.heap.update a (Lb (Hw es p (knd.hash k,.ref b)) (t.put j).1)} a (Lb (Hw es p (knd.hash k,.ref b)) (t.put j).1 o) (Hw es p (knd.hash k,.ref b)) (ep+1) (t.put j).1 (xs.take p++(k,b)::xs.drop p):=by
 subst ej epp;have hb:=(SetTable.iQ S.good.rise #v[1].j).1;have hbx:Cz t.place #v[1].j<=xs.length:=by rw[<-S.len, <-S.size];exact hb
 have hnf:(Lb (Hw es #v[49] (knd.hash k,.ref b)) (t.put #v[1].j).1 o).isFreed=false:=by
  rw[Pp _ _ S.hd];rfl
 refine#[Bj _ S.ho hnf,aDm _ _ S.hd S.hex,by rw[Pp _ _ S.hd],?_,S.good.put hN hl hroom,?_,λx hx=>?_,?_,λi j x h1 h2=>?_]
 ·rw[SetTable.fK,S.he, <-Pj, <-Pk,Ca,Ba]
 ·rw[SetTable.jY S.good.dum];show(Hw t.place _ _).size=_;rw[SetTable.nP _ _ hb,SetTable.nP _ _ (by rw[<-S.size];exact hb),S.size]
 ·rcases List.mem_append.mp hx with m|m
  ·exact hkeep _ (Cb ..) _ _ (S.keys x (Hh m))
  ·rcases List.mem_cons.mp m with e|m
   ·rw[e];exact hkeep _ (Cb ..) _ _ hkey
   ·exact hkeep _ (Cb ..) _ _ (S.keys x (Iu m))
 ·have pm:((xs.take #v[49]++(k,b)::xs.drop #v[49]).map (·.1)).Perm (k::xs.map (·.1)):=by
   have:=(Kh (a:=(k,b)) (l₁:=xs.take #v[49]) (l₂:=xs.drop #v[49])).map (·.1);rw[Ep]at this;exact this
  rw[pm.nodup_iff,Jd];refine#[λm=>?_,S.nd];obtain⟨x,hx,e⟩:=List.mem_map.mp m;exact hn x hx e
 ·rw[SetTable.jY S.good.dum]at h1;have h1':(t.place.toList.take #v[49]++#v[1].j::t.place.toList.drop #v[49])[i]? =some j:=by
   rw[<-SetTable.fK,Cj];exact h1
  have gp:=get_ins (by rw[As];exact hb) h1';have gx:=get_ins hbx h2;rcases gp with ⟨z1,z2⟩|⟨z1,z2⟩|⟨z1,z2⟩
  ·rcases gx with ⟨y1,y2⟩|⟨y1,y2⟩|⟨y1,y2⟩
   ·exact(S.way i j x (by rw[<-Cj];exact z2) y2).put S.good hN
   ·lia
   ·lia
  ·rcases gx with ⟨y1,y2⟩|⟨y1,y2⟩|⟨y1,y2⟩
   ·lia
   ·rw[z2,y2];exact SetTable.tZ.new S.good hN first
   ·lia
  ·rcases gx with ⟨y1,y2⟩|⟨y1,y2⟩|⟨y1,y2⟩
   ·lia
   ·lia
   ·exact(S.way (i-1) j x (by rw[<-Cj];exact z2) y2).put S.good hN
end
namespace SetTable
def stP(M:Nat)(i perturb:Nat):Probe:={j:=i,more:=runEnd M i-i,i,perturb,dummy:=none}
def st(M:Nat)(h:Int):Probe:=stP M (bits h % (M+1)) (bits h)
def aSi(M:Nat)(h:p.j+p.more<=M):(adv M p).j+(adv M p).more<=M:=by
 unfold adv;split
 ·show p.j+1+(p.more-1)<=M;lia
 ·show(leap M p.i p.perturb).1+(runEnd M (leap M p.i p.perturb).1-(leap M p.i p.perturb).1)<=M;have:(leap M p.i p.perturb).1<=M:=by
   show(p.i*5+1+p.perturb / 32) % (M+1)<=M;have:=Pi (p.i*5+1+p.perturb / 32) (show 0<M+1 by lia)
   lia
  unfold runEnd;split<;>lia
theorem aF4(M:Nat):∀(n:Nat){p:Probe},p.j+p.more<=M->(advs M n p).j<=M
 |0,_,h=>by rw[advs];lia
 |n+1,_,h=>by rw[advs];exact aF4 M n (aSi M h)
def aV3(M:Nat)(h:Int):(st M h).j+(st M h).more<=M:=by
 show bits h % (M+1)+(runEnd M (bits h % (M+1))-bits h % (M+1))<=M;have:=Pi (bits h) (show 0<M+1 by lia);unfold runEnd;split<;>lia
end SetTable
theorem filterMap_get{α β:Type}{f:α->Option β}{l:List α}(h:∀i∈l,∃y,f i=some y)(r:Nat):(l.filterMap f)[r]? =l[r]?.bind f:=by
 induction l generalizing r with
 |nil=>simp
 |cons a l ih=>obtain⟨y,hy⟩:=h a Ah;cases r<;>grind
def yN(l:List α):(Bh l.length).filterMap (λi:Nat=>l[i]?)=l:=by
 apply Jy;intro r;rw[filterMap_get (λi hi=>#[l[i]'(List.mem_range.mp hi),Ag (List.mem_range.mp hi)])];by_cases h:r<l.length
 ·rw[Qy h];rfl
 ·rw[Er (by rw[Cw];lia),Er ∅];rfl
section
variable {prog:Program}{w:World}{K:Type} [DecidableEq K]{knd:#v[59]}{A:Around}{E:#v[7]}{s:Shared}{a b:Addr}{o:Obj}{es:#v[63]}{ep:Nat}{t:SetTable}{xs:List (K×Addr)}{k:K}
end
namespace SetTable
variable {t:SetTable}
def aFr(G:t.Good)(h:Int):∃N,N<10*turns t.mask/\t.slot #v[91].j=.empty/\∀m,m<N->t.slot (advs t.mask m #v[S]).j≠.empty:=by
 obtain⟨N,h1,h2⟩:=aH5 G.round G.dum G.room #v[S] (aEs t h).1 (aEs t h).2;induction N using Ky with
 |_ N ih=>
  by_cases hx:∃m,m<N/\t.slot (advs t.mask m #v[S]).j=.empty
  ·obtain⟨m,hm,e⟩:=hx;exact ih m hm ∅ e
  ·exact#[N,h1,h2,λm hm e=>hx #[m,hm,e]]
def seen(mask:Nat):Nat->Nat->Nat->Nat
 |0,_,u=>u
 |m+1,i,u=>seen mask m (five mask i) (u |||1<<<i)
def Small(t:SetTable):Prop:=t.mask=7/\t.place.size<=4
def Small.odd(S:t.Small):t.mask % 2=1:=by rw[S.1]
end SetTable
section
variable {prog:Program}{w:World}{K:Type} [DecidableEq K](knd:#v[59])
def lW(s:Shared)(a:Addr)(l:Bool)(xs:List (K×Addr)):Prop:=∃o es ep t,pM knd s a o es ep t xs/\t.Small/\t.plain=true/\t.led=l
variable {knd}{A:Around}{E:#v[7]}{s:Shared}{a b:Addr}{o:Obj}{es:#v[63]}{ep:Nat}{t:SetTable}{xs:List (K×Addr)}{k:K}{l:Bool}
def lW.at(D:tU knd)(S:lW knd s a l xs)(h1:∀o,s.heap.get? a=some o->s'.heap.get? a=some o)(h2:∀b o,o.cls=.type "tuple"->s.heap.get? b=some o->s'.heap.get? b=some o):lW knd s' a l xs:=by
 obtain⟨o,es,ep,t,S,r⟩:=S;exact#[o,es,ep,t,#[h1 o S.ho,S.hex,S.hd,S.he,S.good,S.size,λx hx=>D.mono (S.keys x hx) h2,S.nd,S.way],r]
def aH6(x:Addr)(es:#v[63]):byScan (.ref x) es=false:=rfl
def pI(D:tU knd)(S:lW knd s a l xs)(hn:xs.length<4)(hu:knd.room A)(hkey:knd.is s.heap k b)
  (hold:(∃x∈xs,x.1=k)->Q false s)
  (hnew:(∀x∈xs,x.1≠k)->∀h' xs',Dv a s.heap h'->xs'.Perm ((k,b)::xs)->lW knd {s with heap:=h'} a l xs'->Q true {s with heap:=h'}):
  #v[2] (setAddHashed a (.ref b) (knd.hash k)) Q E s:=by
 obtain⟨o,es,ep,t,S,sm,pl,rfl⟩:=S;unfold setAddHashed;refine Bq ?_;unfold setAddHashedIn;refine Aa (Ff S.ho S.hd S.fits ?_);dsimp only;rw[aH6]
 ac_rfl
 obtain⟨N,n1,n2,n3⟩:=SetTable.aFr S.good (knd.hash k);have bigm:10*Kn t.mask<=100000:=by
  unfold Kn;rw[sm.1];decide
 refine Aa (vD S sm.odd D hu hkey n2 n1 n3 (λh=>?_) (λh=>?_) 100000 0 none rfl (Bg _) ∅ λm hm=>absurd hm (Dz m))
 ·exact Ac (hold h)
 ·dsimp only;refine Aa (Ff S.ho S.hd S.fits ?_);dsimp only;have lowj:#v[1].j<=t.mask:=SetTable.aF4 _ _ (SetTable.aV3 _ _);have hsz:t.place.size+1<=t.mask:=by have:=sm.1;have:=sm.2;lia
  have S':=S.add hkey h (λh' sb x c hx=>D.keep hx S.ho S.hex sb) n2 n3 lowj hsz rfl rfl;have hb:=(SetTable.iQ S.good.rise #v[1].j).1;have psz:(t.put #v[1].j).1.place.size=t.place.size+1:=by
   rw[SetTable.jY S.good.dum];exact SetTable.nP _ _ hb
  have pmk:(t.put #v[1].j).1.mask=t.mask:=by rw[SetTable.jY S.good.dum]
  have ppl:(t.put #v[1].j).1.plain=true:=by rw[SetTable.jY S.good.dum];exact pl
  have pld:(t.put #v[1].j).1.led=t.led:=by rw[SetTable.jY S.good.dum]
  have p2:(t.put #v[1].j).2=Cz t.place #v[1].j:=by rw[SetTable.jY S.good.dum]
  have pm:=(Kh (a:=(k,b)) (l₁:=xs.take #v[49]) (l₂:=xs.drop #v[49]));rw[Ep]at pm;have fl:(t.put #v[1].j).1.fill=t.place.size+1:=by
   unfold Nk;rw[psz,S'.good.dum];rfl
  rw[ppl];simp only[if_true];refine Aa (D.byValue hkey ?_);simp only[if_true,p2];have els:=S'.len;have eln:=S.len;have hxl:=pm.length_eq;rw[Am]at hxl;refine Aa (Vd S.ho S.hd ?_ (by rw[els,hxl];unfold sizeLine;lia));by_cases full:(t.put #v[1].j).1.tooFull=true
  ·unfold SetTable.tooFull at full;rw[fl,pmk,sm.1]at full;have full:=of_decide_eq_true full;have sz:=S.size
   lia
  ·have full:=Bool.eq_false_iff.mpr full;rw[full];simp only[Hq,Cm,if_false];refine Ac (hnew h _ _ (Cb ..) pm #[_,_,_,_,S',?_,ppl,pld]);have sz:=S.size;unfold SetTable.Small;rw[pmk,psz];exact#[sm.1,∅]
end
def rE(n:Nat)(i:Int)(tk):hashByValue n (.int i tk)=pure true:=by cases n<;>rfl
def vR(n:Nat)(h:carriedByValue v=true):ofAClassStatement n v=pure false:=by
 cases v with
 |ref a=>cases h
 |_=>first|rfl|(unfold ofAClassStatement;rfl)
section
variable {prog:Program}{w:World}{K:Type} [DecidableEq K]{knd:KeyKind prog w K}{A:Around}{E:#v[7]}{s:Shared}
def ItemsAre.ints(hv:#v[73])(hx:ItemsAre knd x vs):∀v∈vs,∃i tk,v=Ec i tk:=by
 induction hx with
 |nil=>intro v hv;simp at hv
 |@cons k v' ks vs h1 _ ih=>
  intro v hm;rcases List.mem_cons.mp hm with rfl|hm
  ·exact hv _ _ h1
  ·exact ih v hm
def pF(hv:#v[73])(hk:IsTupleKey knd s.heap ks a)(h:Q true s):#v[2] (hashByValue (n+1) (.ref a)) Q E s:=by
 have hT:=hk.typeIs;obtain⟨o,items,m,ho,_,hd,hi⟩:=hk;unfold hashByValue;refine Aa (Eb hT F.slot_tuple_hash.lookup ?_);show wpAny _ _ (seqItems? (.ref a)>>=_) _ _ s;refine Aa (Cp ho hd ?_);refine Aa ?_;show wpAny _ _ (forIn items _ _) _ _ s;rw[<-Et];refine En _ (λrest r s'=>r.1=none/\s'=s/\∀v∈rest,∃i tk,v=Ec i tk) _ ?_ ?_ _ _ #[rfl,rfl,hi.ints hv]
 ·rintro v rest r s' ⟨hr,rfl,hall⟩;obtain⟨i,tk,rfl⟩:=hall v Ah;rw[rE];refine Aa (Ac ?_)
  ac_rfl
  exact Ac #[rfl,rfl,λu hu'=>hall u (Af _ hu')]
 ·rintro⟨r1,r2⟩ s' ⟨hr,rfl,_⟩;simp only at hr;subst hr;exact Ac h
def qR(hv:#v[73])(hk:bN knd s.heap x a)(h:Q true s):#v[2] (hashByValue 8 (.ref a)) Q E s:=by
 have hT:=hk.typeIs;obtain⟨o,v,b,m,ho,_,hd,h1,h2⟩:=hk;unfold hashByValue;refine Aa (Eb hT F.slot_tuple_hash.lookup ?_);show wpAny _ _ (seqItems? (.ref a)>>=_) _ _ s;refine Aa (Cp ho hd ?_);refine Aa ?_;show wpAny _ _ (forIn _ _ _) _ _ s;rw[<-Et];refine En _ (λrest r s'=>r.1=none/\s'=s/\∀u∈rest,u=v∨u=.ref b) _ ?_ ?_ _ _ #[rfl,rfl,λu hu=>by simpa using hu]
 ·rintro u rest r s' ⟨hr,rfl,hall⟩;rcases hall u Ah with rfl|rfl
  ·obtain⟨i,tk,rfl⟩:=hv _ _ h1;rw[rE];refine Aa (Ac ?_)
   ac_rfl
   exact Ac #[rfl,rfl,λu hu'=>hall u (Af _ hu')]
  ·refine Aa (pF hv h2 ?_)
   ac_rfl
   exact Ac #[rfl,rfl,λu hu'=>hall u (Af _ hu')]
 ·rintro⟨r1,r2⟩ s' ⟨hr,rfl,_⟩;simp only at hr;subst hr;exact Ac h
def rP(hk:IsTupleKey knd s.heap ks a)(h:Q false s):#v[2] (ofAClassStatement (n+1) (.ref a)) Q E s:=by
 have hT:=hk.typeIs;obtain⟨o,items,m,ho,_,hd,hi⟩:=hk;unfold ofAClassStatement;refine Aa (Hj hT ?_);dsimp only;simp only[beq_self_eq_true,if_true];refine Aa (Ac ?_)
 ac_rfl
 refine Aa (Cp ho hd ?_);dsimp only;refine Aa ?_;rw[<-Et];refine En _ (λrest r s'=>r.1=none/\s'=s/\∀v∈rest,carriedByValue v=true) _ ?_ ?_ _ _ #[rfl,rfl,hi.byValue]
 ·rintro v rest r s' ⟨hr,rfl,hall⟩;rw[vR _ (hall v Ah)];refine Aa (Ac ?_)
  ac_rfl
  exact Ac #[rfl,rfl,λu hu'=>hall u (Af _ hu')]
 ·rintro⟨r1,r2⟩ s' ⟨hr,rfl,_⟩;simp only at hr;subst hr;exact Ac h
def tG(hk:bN knd s.heap x a)(h:Q false s):#v[2] (ofAClassStatement 8 (.ref a)) Q E s:=by
 have hT:=hk.typeIs;obtain⟨o,v,b,m,ho,_,hd,h1,h2⟩:=hk;unfold ofAClassStatement;refine Aa (Hj hT ?_);dsimp only;simp only[beq_self_eq_true,if_true];refine Aa (Ac ?_)
 ac_rfl
 refine Aa (Cp ho hd ?_);dsimp only;refine Aa ?_;rw[<-Et];refine En _ (λrest r s'=>r.1=none/\s'=s/\∀u∈rest,u=v∨u=.ref b) _ ?_ ?_ _ _ #[rfl,rfl,λu hu=>by simpa using hu]
 ·rintro u rest r s' ⟨hr,rfl,hall⟩;rcases hall u Ah with rfl|rfl
  ·rw[vR _ (knd.byValue _ _ h1)];refine Aa (Ac ?_)
   ac_rfl
   exact Ac #[rfl,rfl,λu hu'=>hall u (Af _ hu')]
  ·refine Aa (rP h2 ?_)
   ac_rfl
   exact Ac #[rfl,rfl,λu hu'=>hall u (Af _ hu')]
 ·rintro⟨r1,r2⟩ s' ⟨hr,rfl,_⟩;simp only at hr;subst hr;exact Ac h
def IsTupleKey.monoS(x:IsTupleKey knd h ks a)(hs:∀b o,o.cls=.type "tuple"->h.get? b=some o->h'.get? b=some o):IsTupleKey knd h' ks a:=by
 obtain⟨o',items,n,ho',hc,hd',hi⟩:=x;exact#[o',items,n,hs _ _ hc ho',hc,hd',hi]
def bN.monoS(hx:bN knd h x a)(hs:∀b o,o.cls=.type "tuple"->h.get? b=some o->h'.get? b=some o):bN knd h' x a:=by
 obtain⟨o',v,b,n,ho',hc,hd',h1,h2⟩:=hx;exact#[o',v,b,n,hs _ _ hc ho',hc,hd',h1,h2.monoS hs]
def aMh(hv:#v[73]):tU (cY knd) where
 mono:=λx hs=>bN.monoS x hs
 byValue:=λx h=>qR hv x h
 plain:=λx h=>tG x h
end
namespace F
def dG:Slot "set_iterator" "__next__" "set_iterator.__next__":=
 .of (owner:="set_iterator") (n:="__next__") (by rw[Jq,Hn];kernel_rfl) #v[5] #v[5] #v[5]
  (by first|exact .inl #v[5]|exact .inr #v[5]) (by rw[Qh];kernel_rfl)
def jD:Slot "set_iterator" "__iter__" "set_iterator.__iter__":=
 .of (owner:="set_iterator") (n:="__iter__") (by rw[Jq,Hn];kernel_rfl) #v[5] #v[5] #v[5]
  (by first|exact .inl #v[5]|exact .inr #v[5]) (by rw[Qh];kernel_rfl)
def pJ:entryFor table "set_iterator.__next__"=some Builtin.«set_iterator.__next__»:=Wb (by kernel_rfl)
def pZ:entryFor table "set_iterator.__iter__"=some Builtin.«dict_keyiterator.__iter__»:=
 entryFor_alias (id':="dict_keyiterator.__iter__") (by kernel_rfl) (by first|rfl|decide+kernel) #v[5] (by kernel_rfl)
def aAn:entryFor table "set.__iter__"=some Builtin.«frozenset.__iter__»:=
 entryFor_alias (id':="frozenset.__iter__") (by kernel_rfl) (by first|rfl|decide+kernel) #v[5] (by kernel_rfl)
def nG:Manifest.owners.lookup (String.ofList ['r','o','t','a','r','e','t','i','_','t','e','s'].reverse)=some Manifest.sig_set_iterator:=by kernel_rfl
def oO(a:Value):argsOk "set_iterator.__next__" #[[a],[]]:=by
 unfold argsOk;rw[signature?_of (id:="set_iterator.__next__") (n:=['_','_','t','x','e','n','_','_']) (o:=['r','o','t','a','r','e','t','i','_','t','e','s']) (by kernel_rfl) nG];kernel_rfl
def oZ(a:Value):argsOk "set_iterator.__iter__" #[[a],[]]:=by
 unfold argsOk;rw[signature?_of (id:="set_iterator.__iter__") (n:=['_','_','r','e','t','i','_','_']) (o:=['r','o','t','a','r','e','t','i','_','t','e','s']) (by kernel_rfl) nG];kernel_rfl
end F
theorem fP{α:Type}:∀{l:List α}{n:Nat}(h:n<l.length),(l[n]::l.eraseIdx n).Perm l
 | [],_,h=>absurd h (Dz _)
 |a::l,0,_=>Jc _
 |a::l,n+1,h=>by
  have h':n<l.length:=Qb h;show(l[n]::a::l.eraseIdx n).Perm (a::l);exact(Qz _ _ _).trans ((fP (Qb h)).cons a)
def zK(next:Nat->Nat)(xs:Array α):(pickOrder next xs).toList.Perm xs.toList:=by
 have go:∀(fuel k:Nat)(left:List α)(out:Array α),left.length=fuel->(Nz next fuel k left out).toList.Perm (out.toList++left):=by
  intro fuel;induction fuel with
  |zero=>
   intro k left out h;have:left=[]:=List.length_eq_zero_iff.mp h;subst this;simp[Nz]
  |succ fuel ih=>
   intro k left out h;have hlt:next k % left.length<left.length:=Pi _ ∅;rw[Nz,Ag hlt];dsimp only;refine(ih _ _ _ (by rw[List.length_eraseIdx_of_lt hlt];lia)).trans ?_;rw[Rv,Ce];refine List.Perm.append_left _ ?_;exact fP hlt
 exact go xs.size 0 xs.toList (List.toArray []) (by simp)
section
variable {prog:Program}{w:World}{A:Around}{E:#v[7]}{s:Shared}
def gW(w:World)(S:Addr)(es:#v[63])(ep:Nat):List Value:=if w.params.followText "set-order"=true then(pickOrder (w.params.setOrder S ep) es).toList.map (·.2)else es.toList.map (·.2)
def lK(w:World)(S:Addr)(es:#v[63])(ep:Nat):(gW w S es ep).Perm (es.toList.map (·.2)):=by
 unfold gW;split
 ·exact(zK _ _).map _
 ·exact Jc _
def aAj(w:World)(t:SetTable)(slot i:Nat):Prop:=w.params.followText "set-order"=true∨Cz t.place slot=i
def aG6(R:SetTable.uE xs)(h:i<xs.size):Cz xs (xs.getD i 0+1)=i+1:=by
 obtain⟨h1,h2,h3⟩:=SetTable.iQ R (xs.getD i 0+1);rcases He (Cz xs (xs.getD i 0+1)) (i+1)with z|z|z
 ·have:=h3 i ∅ h
  lia
 ·exact z
 ·have:=h2 (i+1) z;have:=R i (i+1) ∅ ∅
  lia
def aBc{slot i:Nat}{Q:Option (Value×Nat)->Shared->Prop}(ho:s.heap.get? S=some o)(hd:o.data=.set es ep t)(hf:t.fits es.size=true)(hr:SetTable.uE t.place)(hpl:t.plain=true)(hl:#v[81])
  (hs:aAj w t slot i) (h1:∀v slot',(gW w S es ep)[i]? =some v->aAj w t slot' (i+1)->Q (some (v,slot')) s) (h2:es.size<=i->Q none s):#v[2] (setNext S slot i ep) Q E s:=by
 have psz:t.place.size=es.size:=by
  simp only[Nj,Ip,beq_iff_eq,decide_eq_true_eq]at hf;exact hf.1
 unfold setNext setsByText;refine Aa (Ff ho hd hf ?_);dsimp only;refine Aa (Aa (Jj (Ac ?_)));dsimp only[model];have olen:(gW w S es ep).length=es.size:=by rw[(lK w S es ep).length_eq,Ab,As]
 cases hb:w.params.followText "set-order"
 ·ac_rfl
  have hs:Cz t.place slot=i:=by
   rcases hs with z|z
   ·rw[hb]at z;cases z
   ·exact z
  show wpAny _ _ (if(!t.plain && decide (es.size>1))=true then _ else _) _ _ _;rw[hpl];simp only[Mc,Jo,Cm,if_false];show wpAny _ _ ((if(!t.led && !es.isEmpty)=true then _ else _)>>=_) _ _ _;rw[hl,hb];simp only[Jn,Mc,Jo,Cm,if_false];refine Aa (Ac ?_);rw[hs];have eo:(gW w S es ep)[i]? =(es[i]?).map (·.2):=by
   unfold gW;rw[hb];simp
  by_cases hi:i<es.size
  ·have hp:i<t.place.size:=by lia
   rw[Bm hi,Bm hp];refine Ac (h1 _ _ (by rw[eo,Bm hi];rfl) (.inr ?_));have:=aG6 hr hp;simpa[Iy,hp]using this
  ·rw[Kl ∅];exact Ac (h2 ∅)
 ·simp only[if_true];rw[if_neg (by simp)];unfold setWalk setsByText;refine Aa (Aa (Ff ho hd hf ?_));dsimp only;refine Aa (Aa (Jj (Ac ?_)));dsimp only[model];rw[hb];simp only[if_true];refine Aa (Jj ?_);refine Ac ?_;dsimp only[model];have eo:(gW w S es ep)[i]? =((pickOrder (w.params.setOrder S ep) es)[i]?).map (·.2):=by
   unfold gW;rw[hb];simp
  cases hg:(pickOrder (w.params.setOrder S ep) es)[i]? with
  |none=>
   rw[hg]at eo;have:=List.getElem?_eq_none_iff.mp eo;exact Ac (h2 ∅)
  |some e=>
   rw[hg]at eo;exact Ac (h1 _ _ eo (.inl hb))
def pX(h:Heap)(I S:Addr)(slot i n ep:Nat):Prop:=∃o,h.get? I=some o/\o.cls=.type "set_iterator"/\o.data=.fields (List.toArray [.int slot 0,.int i 0,.ref S,.int n 0,.int ep 0])
def pX.typeIs{slot i n ep:Nat}(h:pX s.heap I S slot i n ep):s.TypeIs (.ref I) "set_iterator":=let⟨o,ho,hc,_⟩:=h;#[o,ho,hc]
variable {I S:Addr}{o:Obj}{es:#v[63]}{ep:Nat}{t:SetTable}{slot i:Nat}
def pY{Q:#v[56]}(hh:#v[O])(hit:pX s.heap I S slot i es.size ep)(ho:s.heap.get? S=some o)(hd:o.data=.set es ep t)(hf:t.fits es.size=true)(hr:SetTable.uE t.place)(hpl:t.plain=true)(hl:#v[81])
  (hs:aAj w t slot i) (h1:∀v slot' h',(gW w S es ep)[i]? =some v->aAj w t slot' (i+1)->pX h' I S slot' (i+1) es.size ep->Dv I s.heap h'->Q (some v) {s with heap:=h'}) (h2:es.size<=i->∀h',Nt I s.heap h'->Q none {s with heap:=h'}):
  #v[2] (pyNext (.ref I)) Q E s:=by
 obtain⟨oi,hoi,hci,hdi⟩:=id hit;unfold pyNext;refine Aa (Gj (Cc (name:=Do "__next__") hit.typeIs F.dG
  (Bl F.dG hit.typeIs F.pJ ?_ (F.oO _))))
 unfold Builtin.«set_iterator.__next__»;refine Aa (m:=slotArgs "__next__" 0 _) (Ac ?_);refine Aa (Ke hoi hdi ?_);dsimp only;refine Aa (Ts ho hd hf ?_);rw[if_neg (by simp)];simp only[Bw];refine Aa (aBc ho hd hf hr hpl hl hs (λv slot' e ok=>?_) λhge=>?_)
 ·dsimp only;refine Aa (Fz hoi hdi (by simp) ?_);have hoi2:=Bj (Ja (·.setIfInBounds 0 (rawInt slot'))) hoi (Gv (Dw hdi _));have hdi2:=Dw hdi (·.setIfInBounds 0 (rawInt slot'));refine Aa (Fz hoi2 hdi2 (by simp) ?_);refine Ac #[_,rfl,Ac (h1 v slot' _ e ok #[_,Bj _ hoi2 (Gv (Dw hdi2 _)),(Ih ..).trans ((Ih ..).trans hci),by rw[Dw hdi2];simp[rawInt]] (Wq (Cb ..) (Cb ..)))]
 ·dsimp only;refine Aa (Fz hoi hdi (by simp) ?_);show wpAny _ _ (newExc (.type "StopIteration") []>>=_) _ _ _;refine Aa ?_;simp only[newExc,newTuple];refine Aa (Bp ?_ (by size_fits));refine Aa (m:=firstArgMember _ _) (Kv (a:=Bn) (by first|rfl|(simp only[firstArgMember];rfl)) ?_);refine Bp ?_ (by size_fits);simp only[raiseNew];refine Aa (My ?_);rw[show A.in1.handled=none from hh];refine Aa (Ac (Pn ?_));refine Aa (Ed (T:="StopIteration") (b:=true) #[_,Ap _ rfl,rfl] Kf ?_);exact Ac (h2 hge _ (((Cb ..).extBut.push _).push _))
def Walks.set(hh:#v[O])(hne:S≠I)(o:Obj)(hd:o.data=.set es ep t)(hf:t.fits es.size=true)(hr:SetTable.uE t.place)(hpl:t.plain=true)(hl:#v[81]):
  Walks prog w A I [I,S] [I] es.size (λi v=>(gW w S es ep)[i]? =some v) (λi h=>(∃slot,pX h I S slot i es.size ep/\aAj w t slot i)/\h.get? S=some o) where
 sub:=λb hb=>by simp at hb;simp[hb]
 frame:=λ_ _ _ st hk=>by
  obtain⟨⟨slot,⟨oi,h1,h2⟩,h3⟩,h4⟩:=st;exact#[#[slot,#[oi,hk I (by simp) _ h1,h2],h3],hk S (by simp) _ h4]
 item:=λi s Q E hi st hQ=>by
  obtain⟨⟨slot,h1,h3⟩,h4⟩:=st;refine pY hh h1 h4 hd hf hr hpl hl h3 (λv slot' h' e ok it' sb=>?_) λhge=>absurd hi ∅;exact hQ _ h' s.toks e #[#[slot',it',ok],(sb.2 S hne).trans h4] λb o hb e=>sb.extBut b o (λh=>hb (by simp[h])) e
 done:=λs Q E st hQ=>by
  obtain⟨⟨slot,h1,h3⟩,h4⟩:=st;refine pY hh h1 h4 hd hf hr hpl hl h3 (λv slot' h' e ok it' sb=>?_) λhge h' he'=>hQ h' s.toks λb o hb e=>he' b o (λh=>hb (by simp[h])) e;have olen:(gW w S es ep).length=es.size:=by rw[(lK w S es ep).length_eq,Ab,As]
  rw[Er ∅]at e;cases e
 self:=λ_ _ _ _ st hQ=>by
  obtain⟨⟨slot,h1,h3⟩,h4⟩:=st;refine Iq h1.typeIs F.jD (Bl F.jD h1.typeIs F.pZ ?_ (F.oZ _));show wpAny _ _ (ret (.ref I)) _ _ _;exact Ac #[_,rfl,"set_iterator",_,h1.typeIs,F.dG.lookup,hQ]
end
namespace F
def aEb:isSubtype (.type "set") (.type "set")=pure true:=by rw[Qh];kernel_rfl
end F
section
variable {prog:Program}{w:World}{A:Around}{E:#v[7]}{s:Shared}{I S:Addr}{o:Obj}{es:#v[63]}{ep:Nat}{t:SetTable}
def wY{Q:#v[7]}(ho:s.heap.get? S=some o)(hex:o.ExactSet)(hd:o.data=.set es ep t)(hf:t.fits es.size=true)(hpl:t.plain=true)
  (hQ:Q #v[32] {s with heap:=s.heap.push {cls:=.type "set_iterator",data:=.fields (List.toArray [.int 0 0,.int 0 0,.ref S,.int es.size 0,.int ep 0])}}):#v[2] (pyIter (.ref S)) Q E s:=by
 have hT:s.TypeIs (.ref S) "set":=#[o,ho,hex.1];refine Iq hT Vs (Bl Vs hT F.aAn ?_ (F.args_set_iter_1 _));unfold Builtin.«frozenset.__iter__»;refine Aa (m:=Ss "__iter__" _) (Ac ?_);unfold Su;refine Aa (Aa (Ts ho hd hf (Ac ?_)));unfold setDrawn setsByText;refine Aa (Aa (Ff ho hd hf ?_));dsimp only;refine Aa (Aa (Jj (Ac ?_)));show wpAny _ _ (pure (!#v[70].w.params.followText "set-order" && (!t.plain && decide (es.size>1)))) _ _ _;rw[hpl];simp only[Mc,Jo,Hq];refine Ac ?_
 ac_rfl
 refine Aa (Ac ?_);refine Aa (wpAny_setEpoch_of ho hd hf ?_);unfold newFields;refine Aa (Bp (Ac #[_,rfl,"set_iterator",_,#[_,Ap _ rfl,rfl],F.dG.lookup,?_]));simpa[rawInt]using hQ
def oJ{Q:List Value->Shared->Prop}(hh:#v[O])(ho:s.heap.get? S=some o)(hex:o.ExactSet)(hd:o.data=.set es ep t)(hf:t.fits es.size=true)(hr:SetTable.uE t.place)(hpl:t.plain=true)(hl:#v[81])(hn:es.size<=sizeLine)
  (hQ:∀h' tk,#v[0]<h'.objs.size->(∀b o,s.heap.get? b=some o->h'.get? b=some o)->Q (gW w S es ep) {s with heap:=h',toks:=tk}):#v[2] (collect (.ref S)) Q E s:=by
 have hSlt:S<#v[0]:=Ar ho;unfold collect;refine Aa (wpAny_runValue (Da F.entry_proto_collect ?_));rw[Bt F.plain_proto_collect _];show wpAny _ A.in1 (newList []>>=λl=>again (.builtin "list.__iadd__" #[[l,.ref S],[]])) _ _ s;refine Aa (Bp ?_);refine Ac #[Ee Ud _,Da F.entry_list_iadd ?_];rw[Bt Ud _];have ho1:#v[D].get? S=some o:=Ae _ ho;have hT1:Jt {s with heap:=s.heap.push {cls:=.type "list",data:=.seq ([]:List Value).toArray}} (.ref S) "set":=#[o,ho1,hex.1];have hS₁:#v[D].get? #v[0]=some {cls:=.type "list",data:=.seq ([]:List Value).toArray}:=Ap _ rfl;have hne:#v[0]≠S:=Fc hSlt;have h1:Gx #v[32] (.ref S)=false:=by simp[Gx,hne]
 show wpAny _ A.in1 (Ea #v[32] (.ref S) #v[32]) _ _ _;unfold Ea;refine Aa (Hj hT1 ?_);rw[if_neg (by rw[h1];decide)];refine Aa (wY ho1 hex hd hf hpl ?_);have esz:#v[D].objs.size=#v[0]+1:=Ck ..;rw[esz];generalize hH2:#v[D].push {cls:=.type "set_iterator",data:=.fields (List.toArray [.int 0 0,.int 0 0,.ref S,.int es.size 0,.int ep 0])}=H2;have keep2:∀b o,s.heap.get? b=some o->H2.get? b=some o:=λb o e=>by rw[<-hH2];exact Ae _ (Ae _ e)
 have ho2:H2.get? S=some o:=keep2 _ _ ho;have hL2:H2.get? #v[0]=some {cls:=.type "list",data:=.seq ([]:List Value).toArray}:=by rw[<-hH2];exact Ae _ hS₁
 have hI2:H2.get? (#v[0]+1)=some {cls:=.type "set_iterator",data:=.fields (List.toArray [.int 0 0,.int 0 0,.ref S,.int es.size 0,.int ep 0])}:=by rw[<-hH2, <-esz];exact Ap _ rfl
 have hT2:Jt {s with heap:=H2} (.ref S) "set":=#[o,ho2,hex.1];refine Aa (Bq ?_);unfold Ll;refine Aa (Eb hT2 F.slot_set_len.lookup ?_)
 (generalize hid:("set.__len__":String)=id0;(fail_if_success (clear hid id0));wp_delta;rw[show splitId id0=some ("set","__len__")from by subst hid;decide+kernel];subst hid)
 refine Aa (Ed (b:=true) hT2 F.aEb ?_)
 ac_rfl
 rw[if_pos #v[5]];refine Aa (Hj hT2 ?_);refine Ac ?_;rw[if_pos #v[5]];show wpAny _ A.in1 (rule "list.extend.makes-room">>=λ_=>Mo #v[32]>>=λ_=>
  again (.builtin "list.extend.loop" #[[.ref #v[0],.ref (#v[0]+1),.ref #v[0]],[]])) _ _ _
 refine Aa (Hr ?_);refine Aa ?_;show wpAny _ A.in1 (updateSeq #v[0] (·.push .none)>>=λ_=>updateSeq #v[0] (·.pop)) _ _ _;refine Aa (Fg hL2 rfl ?_);have hS₂:=Bj (Dj (·.push Bn)) hL2 rfl;refine Fg hS₂ rfl ?_;have hS₃:=Bj (Dj (·.pop)) hS₂ rfl;have oth:∀b o,b≠#v[0]->H2.get? b=some o->((H2.update #v[0] (Dj (·.push Bn))).update #v[0] (Dj (·.pop))).get? b=some o:=
  λb o hb e=>#v[90].trans (#v[90].trans e)
 have hneI:S≠#v[0]+1:=Aw (Hg hSlt);have W:=(Walks.set (prog:=prog) (A:=A.in1) (I:=#v[0]+1) (S:=S) (by simp[hh]) hneI o hd hf hr hpl hl).toS;have hSf:#v[0]∉[#v[0]+1,S]:=by
  simp only[Cr,Du,Bz,or_false,not_or];exact#[Aw (Fj _),hne]
 refine Ac ⟨Ee F.plain_extend_loop _,codeAny_extend_loopS W hn _ hSf _ es.size 0 _ _ _ rfl (Bg _)
  #[#[0,#[_,oth _ _ (Fc (Fj _)) hI2,rfl,rfl],.inr ?_],oth _ _ hne.symm ho2] hS₃ (ItemsOf.nil _) λs' acc' c' hm hS' hacc=>?_⟩
 ·have:=(SetTable.iQ hr 0).2.1;rcases Nat.eq_zero_or_pos (Cz t.place 0)with z|z
  ·exact z
  ·exact absurd (this 0 z) (Dz _)
 ·show wpAny _ A (load #v[0]>>=_) _ _ s';refine Aa (wpAny_load hS' ?_);obtain⟨h',g',d',tk',os'⟩:=s';have eg:g'=s.gens:=hm.gens;have ed:d'=s.drawn:=hm.drawn;have eo:os'=s.os:=hm.os;subst eg;subst ed;subst eo;have ea:acc'.toList=gW w S es ep:=by
   apply Jy;intro j;have olen:(gW w S es ep).length=es.size:=by rw[(lK w S es ep).length_eq,Ab,As]
   by_cases hj:j<acc'.size
   ·rw[Cj,Bm hj];exact(hacc.2 j _ (Bm hj)).symm
   ·rw[Er (by rw[As];lia),Er (by rw[olen, <-hacc.1];lia)]
  refine Ac ?_;rw[ea];refine hQ h' tk' (Ar hS') λb o e=>?_;have hb:b<#v[0]:=Ar e;exact hm.heap b o (by simp only[Cr,Du,Bz,or_false,not_or];exact#[Aw hb,Aw (Hg hb)]) (oth b o (Aw hb) (keep2 b o e))
end
end PySem
namespace PySem.W
open PyProof.Rows
def KasT.Way{α:Type}(lt:Nat->Nat->Bool)(P:Nat->Prop):KasT α->(α->Prop)->Prop
 |.ret a,Q=>Q a
 |.ask i j k,Q=>P i/\P j/\(k (lt i j)).Way lt P Q
variable {lt:Nat->Nat->Bool}{P:Nat->Prop}
def KasT.way_bind{α β:Type}{f:α->KasT β}{Q:β->Prop}:∀(t:KasT α),t.Way lt P (λa=>(f a).Way lt P Q)->(t.bind f).Way lt P Q
 |.ret _,h=>h
 |.ask i j k,h=>#[h.1,h.2.1,KasT.way_bind (k (lt i j)) h.2.2]
def KasT.way_mono{α:Type}{Q Q':α->Prop}(hq:∀a,Q a->Q' a):∀(t:KasT α),t.Way lt P Q->t.Way lt P Q'
 |.ret _,h=>hq _ h
 |.ask i j k,h=>#[h.1,h.2.1,KasT.way_mono hq (k (lt i j)) h.2.2]
def KasT.way_wp{α:Type}{cmp:Nat->Nat->(Bool->Shared->Prop)->Shared->Prop}{s:Shared}(hc:∀i j C,P i->P j->C (lt i j) s->cmp i j C s){Q:α->Prop}{G:α->Shared->Prop}(hg:∀a,Q a->G a s):∀(t:KasT α),t.Way lt P Q->t.kasWp cmp G s
 |.ret _,h=>hg _ h
 |.ask i j k,h=>hc i j _ h.1 h.2.1 (KasT.way_wp hc hg (k (lt i j)) h.2.2)
structure qG(n:Nat)(lt:Nat->Nat->Bool):Prop where
 tot:∀i j,i<n->j<n->i≠j->lt i j=true∨lt j i=true
 asym:∀i j,lt i j=true->lt j i=false
 trans:∀i j k,lt i j=true->lt j k=true->lt i k=true
def vAt(p:Array Nat)(i:Nat):Nat:=p.getD i 0
def mZ(n:Nat)(p:Array Nat):Prop:=p.toList.Perm (Bh n)
variable {n:Nat}{p:Array Nat}
def mZ.size(h:mZ n p):p.size=n:=by have:=h.length_eq;rw[Cw,As]at this;exact this
def kO{p:Array Nat}:vAt p i=(p[i]?).getD 0:=by
 unfold vAt Iy;by_cases h:i<p.size
 ·simp[h]
 ·simp[h]
def mZ.low(h:mZ n p)(hn:0<n)(i:Nat):vAt p i<n:=by
 rw[kO];cases e:p[i]? with
 |none=>exact hn
 |some x=>
  have:x∈p.toList:=Ai (by rw[Cj];exact e);exact List.mem_range.mp (h.mem_iff.mp this)
def mZ.inj(h:mZ n p)(hi:i<n)(hj:j<n)(e:i≠j):vAt p i≠vAt p j:=by
 have nd:p.toList.Nodup:=h.nodup_iff.mpr Fh;have si:i<p.toList.length:=by rw[As,h.size];exact hi
 have sj:j<p.toList.length:=by rw[As,h.size];exact hj
 intro z;have h1:vAt p i=p.toList[i]:=by rw[kO, <-Cj,Ag si];rfl
 have h2:vAt p j=p.toList[j]:=by rw[kO, <-Cj,Ag sj];rfl
 rw[h1,h2]at z;exact e ((Io nd).mp z)
def mZ.perm(h:mZ n p)(e:q.Perm p):mZ n q:=(Array.perm_iff_toList_perm.mp e).trans h
def nY(lt:Nat->Nat->Bool)(p:Array Nat)(k:Nat):Prop:=∀i j,i<j->j<k->lt (vAt p i) (vAt p j)=true
def aB3(lt:Nat->Nat->Bool)(p:Array Nat)(k:Nat):Prop:=∀i j,i<j->j<k->lt (vAt p j) (vAt p i)=true
def nY.more(S:qG n lt)(h:nY lt p k)(hk:1<=k)(e:lt (vAt p (k-1)) (vAt p k)=true):nY lt p (k+1):=λi j hi hj=>by
 by_cases z:j<k
 ·exact h i j hi z
 ·obtain rfl:j=k:=by lia
  by_cases y:i=j-1
  ·subst y;exact e
  ·exact S.trans _ _ _ (h i (j-1) ∅ ∅) e
def aB3.more(S:qG n lt)(h:aB3 lt p k)(hk:1<=k)(e:lt (vAt p k) (vAt p (k-1))=true):aB3 lt p (k+1):=λi j hi hj=>by
 by_cases z:j<k
 ·exact h i j hi z
 ·obtain rfl:j=k:=by lia
  by_cases y:i=j-1
  ·subst y;exact e
  ·exact S.trans _ _ _ e (h i (j-1) ∅ ∅)
theorem aCt(S:qG n lt)(hn:0<n)(T:mZ n p):∀(f k:Nat),1<=k->k+f=n->nY lt p k->(kas_asc p f k).Way lt (·<n) λm=>nY lt p m/\k<=m/\m<=n/\(m=n∨lt (vAt p m) (vAt p (m-1))=true)
 |0,k,h1,h2,h3=>#[h3,Aj _,∅,.inl ∅]
 |f+1,k,h1,h2,h3=>by
  refine#[T.low hn k,T.low hn (k-1),?_];show KasT.Way lt (·<n) (if lt (vAt p k) (vAt p (k-1))=true then _ else _) _;by_cases c:lt (vAt p k) (vAt p (k-1))=true
  ·rw[if_pos c];exact#[h3,Aj _,∅,.inr c]
  ·rw[if_neg c];have c':=(S.tot _ _ (T.low hn k) (T.low hn (k-1)) (T.inj ∅ ∅ ∅)).resolve_left c;exact KasT.way_mono (λm z=>#[z.1,∅,z.2.2]) _ (aCt S hn T f (k+1) ∅ ∅ (h3.more S h1 c'))
theorem aFo(S:qG n lt)(hn:0<n)(T:mZ n p):∀(f k:Nat),1<=k->k+f=n->aB3 lt p k->(kas_desc f p k 0).Way lt (·<n) λr=>r.1=p/\r.2.2=0/\aB3 lt p r.2.1/\k<=r.2.1/\r.2.1<=n
 |0,k,h1,h2,h3=>#[rfl,rfl,h3,Aj _,by show k<=n;lia]
 |f+1,k,h1,h2,h3=>by
  refine#[T.low hn k,T.low hn (k-1),?_];show KasT.Way lt (·<n) (if lt (vAt p k) (vAt p (k-1))=true then _ else _) _;by_cases c:lt (vAt p k) (vAt p (k-1))=true
  ·rw[if_pos c,if_neg ∅];exact KasT.way_mono (λm z=>#[z.1,z.2.1,z.2.2.1,∅,z.2.2.2.2]) _ (aFo S hn T f (k+1) ∅ ∅ (h3.more S h1 c))
  ·rw[if_neg c];refine#[T.low hn (k-1),T.low hn k,?_];have c':=(S.tot _ _ (T.low hn k) (T.low hn (k-1)) (T.inj ∅ ∅ ∅)).resolve_left c;show KasT.Way lt (·<n) (if lt (vAt p (k-1)) (vAt p k)=true then _ else _) _;rw[if_pos c'];exact#[rfl,rfl,h3,Aj _,by show k<=n;lia]
def aPz(hm:m<=p.size)(i:Nat):vAt (kas_rev p 0 m) i=if i<m then vAt p (m-1-i)else vAt p i:=by
 rw[kO,kas_rev,getElem?_mirror_all hm];by_cases h:i<m
 ·rw[if_pos #[Bg _,h],if_pos h,kO,Ij]
 ·rw[if_neg (λz=>h z.2),if_neg h,kO]
def aLr(S:qG n lt)(hn:0<n)(T:mZ n p):(kas_count n p).Way lt (·<n) λr=>mZ n r.2/\nY lt r.2 r.1/\1<=r.1/\r.1<=n:=by
 refine KasT.way_bind _ (KasT.way_mono (λm z=>?_) _ (aCt S hn T (n-1) 1 (Aj _) ∅ λi j h1 h2=>by lia));obtain⟨z1,z2,z3,z4⟩:=z;by_cases e:m=n
 ·rw[if_pos (beq_iff_eq.mpr e)];exact#[T,z1,z2,z3]
 ·rw[if_neg (λy=>e (beq_iff_eq.mp y))];have z4:=z4.resolve_left e;by_cases g:m>1
  ·rw[if_pos g];refine#[T.low hn 0,T.low hn (m-1),?_];have c:lt (p.getD 0 0) (p.getD (m-1) 0)=true:=z1 0 (m-1) ∅ ∅;rw[c];dsimp only;rw[if_pos rfl];exact#[T,z1,z2,z3]
  ·rw[if_neg g];obtain rfl:m=1:=by lia
   refine KasT.way_bind _ (KasT.way_mono (λr y=>?_) _ (aFo S hn T (n-(1+1)) (1+1) ∅ ∅ λi j h1 h2=>?_))
   ·obtain⟨q,k,w⟩:=r;obtain⟨y1,y2,y3,y4,y5⟩:=y;have y1:q=p:=y1;have y2:w=0:=y2;subst y1 y2;show KasT.Way lt (·<n) (if 0>0 then _ else _) _;rw[if_neg ∅];have y3:aB3 lt q k:=y3;have y4:2<=k:=y4;have y5:k<=n:=y5;have T':mZ n (kas_rev q 0 k):=T.perm (mirror_perm ..);have hs:k<=q.size:=by rw[T.size];exact y5
    refine KasT.way_bind _ (KasT.way_mono (λm' x=>?_) _ (aCt S hn T' (n-k) k ∅ ∅ λi j h1 h2=>?_))
    ·exact#[T',x.1,by have:=x.2.1;show 1<=m';lia,x.2.2.1]
    ·rw[aPz hs,aPz hs,if_pos ∅,if_pos h2];exact y3 _ _ ∅ ∅
   ·obtain rfl:i=0:=by lia
    obtain rfl:j=1:=by lia
    exact z4
theorem wI(S:qG n lt)(hn:0<n)(T:mZ n p)(hk:k<n)(R:nY lt p k):∀(f l r:Nat),l<=r->r<=k->r-l<=f->(∀i,i<l->lt (vAt p i) (vAt p k)=true)->(∀i,r<=i->i<k->lt (vAt p k) (vAt p i)=true)->
  (kas_place p k f l r).Way lt (·<n) λm=>m<=k/\(∀i,i<m->lt (vAt p i) (vAt p k)=true)/\∀i,m<=i->i<k->lt (vAt p k) (vAt p i)=true
 |0,l,r,h1,h2,h3,a,b=>by
  obtain rfl:l=r:=by lia
  exact#[h2,a,b]
 |f+1,l,r,h1,h2,h3,a,b=>by
  show KasT.Way lt (·<n) (if l≥r then _ else _) _;by_cases e:l≥r
  ·rw[if_pos e];obtain rfl:l=r:=by lia
   exact#[h2,a,b]
  ·rw[if_neg e];refine#[T.low hn k,T.low hn _,?_];show KasT.Way lt (·<n) (if lt (vAt p k) (vAt p ((l+r) / 2))=true then _ else _) _;by_cases c:lt (vAt p k) (vAt p ((l+r) / 2))=true
   ·rw[if_pos c];refine wI S hn T hk R f l _ ∅ ∅ ∅ a λi g1 g2=>?_;by_cases y:i=(l+r) / 2
    ·subst y;exact c
    ·exact S.trans _ _ _ c (R _ i ∅ g2)
   ·rw[if_neg c];have c':=(S.tot _ _ (T.low hn k) (T.low hn ((l+r) / 2)) (T.inj hk ∅ ∅)).resolve_left c;refine wI S hn T hk R f _ r ∅ h2 ∅ (λi g=>?_) b;by_cases y:i=(l+r) / 2
    ·subst y;exact c'
    ·exact S.trans _ _ _ (R i _ ∅ ∅) c'
def aPv(hk:k<p.size)(hl:l<=k)(i:Nat):vAt (bubble p k (k-l)) i=if i=l then vAt p k else if l<i/\i<=k then vAt p (i-1)else vAt p i:=by
 rw[kO,getElem?_bubble hk _ ∅,show k-(k-l)=l by lia];split
 ·rw[kO]
 ·split<;>rw[kO]
theorem aIz (S : qG n lt) (hn : 0 < n) : ∀ (f : Nat) (p : Array Nat) (k : Nat), mZ n p → k + f = n → nY lt p k → (kas_bin f p k).Way lt (· < n) fun q => mZ n q ∧ nY lt q n
  | 0, p, k, T, h, R => ⟨T, by obtain rfl : k = n := by lia
                               exact R⟩
  | f + 1, p, k, T, h, R => by
    refine KasT.way_bind _ (KasT.way_mono (fun l z => ?_) _ (wI S hn T (k := k) ∅ R k 0 k (Bg _) (Aj _) ∅ (fun i g => by lia) fun i g1 g2 => by lia))
    obtain ⟨z1, z2, z3⟩ := z
    have hs : k < p.size := by rw [T.size]; lia
    refine aIz S hn f _ (k + 1) (T.perm (bubble_perm ..)) ∅ fun i j h1 h2 => ?_
    rw [aPv hs z1, aPv hs z1]
    by_cases a1 : i = l
    · subst a1
      rw [if_pos rfl, if_neg ∅, if_pos #[h1, by lia]]
      exact z3 (j - 1) ∅ ∅
    · rw [if_neg a1]
      by_cases a2 : l < i ∧ i ≤ k
      · rw [if_pos a2, if_neg ∅, if_pos #[∅, by lia]]
        exact R _ _ ∅ ∅
      · rw [if_neg a2]
        by_cases b1 : j = l
        · rw [if_pos b1]
          exact z2 i ∅
        · rw [if_neg b1]
          by_cases b2 : l < j ∧ j ≤ k
          · rw [if_pos b2]
            by_cases e : i = j - 1
            · lia
            · exact R _ _ ∅ ∅
          · rw [if_neg b2]
            exact R _ _ h1 ∅
def aP5(S:qG n lt)(hn:0<n):(kas_sort n).Way lt (·<n) λq=>mZ n q/\nY lt q n:=by
 have T:mZ n (Vn (Bh n)):=Jc _;refine KasT.way_bind _ (KasT.way_mono (λr z=>?_) _ (aLr S hn T));obtain⟨m,q⟩:=r;obtain⟨z1,z2,z3,z4⟩:=z;have z1:mZ n q:=z1;have z2:nY lt q m:=z2;have z3:1<=m:=z3;have z4:m<=n:=z4;show KasT.Way lt (·<n) (if m<n then kas_bin (n-max m 1) q (max m 1)else _) _;by_cases e:m<n
 ·rw[if_pos e,show max m 1=m by lia];exact aIz S hn _ _ _ z1 ∅ z2
 ·rw[if_neg e];obtain rfl:m=n:=by lia
  exact#[z1,z2]
end PySem.W
namespace PySem
variable {Q:#v[7]}{G:Array GenState->Array GenState->Prop}{items:Array Value}{R:Result->Shared->Prop}{P:Nat->Value->Prop}{tk:Nat->Tok}{l:Addr}{fp wr:List Addr}
open Sem (wp)
open PyProof.Rows (listItems_at)
open SeqAt
def bBf(A:Around)(s:Shared)(y x:Value)(b:Bool):Prop:=
 ∀(prog:Program)(w:World)(E:#v[7])(Q:#v[7]),Q (.bool b) s->#v[2] (richCompare .Lt y x) Q E s
def LtN(n:Nat)(s:Shared)(y x:Value)(b:Bool):Prop:=∀A:Around,A.units<=n->bBf A s y x b
def LtN.ints(n:Nat)(s:Shared)(a b:Int)(t u):LtN n s (.int a t) (.int b u) (decide (a<b)):=λA _ prog w E Q h=>Np h
variable {s:Shared}{a b:Addr}{xs ys:Array Value}{n:Nat}
def lD:List Int->List Int->Bool
 | [],[]=>false
 | [],_::_=>true
 |_::_,[]=>false
 |x::xs,y::ys=>if x=y then lD xs ys else decide (x<y)
theorem aAt:∀x,lD x x=false
 | []=>rfl
 |x::xs=>by rw[lD,if_pos rfl];exact aAt xs
theorem aEv:∀x y,x≠y->lD x y=true∨lD y x=true
 | [],[],h=>absurd rfl h
 | [],_::_,_=> .inl rfl
 |_::_,[],_=> .inr rfl
 |x::xs,y::ys,h=>by
  unfold lD;by_cases e:x=y
  ·subst e;rw[if_pos rfl,if_pos rfl];exact aEv xs ys λz=>h (by rw[z])
  ·rw[if_neg e,if_neg (Cg e),decide_eq_true_iff,decide_eq_true_iff]
   lia
theorem uI:∀x y z,lD x y=true->lD y z=true->lD x z=true
 | [],[],_,h,_=>absurd h ⋯
 | [],_::_,[],_,h=>absurd h (by simp[lD])
 | [],_::_,_::_,_,_=>rfl
 |_::_,[],_,h,_=>absurd h (by simp[lD])
 |_::_,_::_,[],_,h=>absurd h (by simp[lD])
 |x::xs,y::ys,z::zs,h1,h2=>by
  unfold lD at h1 h2⊢;by_cases e1:x=y
  ·subst e1;rw[if_pos rfl]at h1;by_cases e2:x=z
   ·subst e2;rw[if_pos rfl]at h2⊢;exact uI xs ys zs h1 h2
   ·rw[if_neg e2]at h2⊢;exact h2
  ·rw[if_neg e1,decide_eq_true_iff]at h1;by_cases e2:y=z
   ·subst e2;rw[if_neg e1,decide_eq_true_iff];exact h1
   ·rw[if_neg e2,decide_eq_true_iff]at h2;rw[if_neg ∅,decide_eq_true_iff]
    lia
def aBz(x y:List Int)(h:lD x y=true):lD y x=false:=by
 cases e:lD y x with
 |false=>rfl
 |true=>
  have:=uI x y x h e;rw[aAt]at this;cases this
variable {prog:Program}{w:World}
def LtN.tups{a b:Addr}(ha:IsTupleKey #v[37] s.heap x a)(hb:IsTupleKey #v[37] s.heap y b)(hn:n+4<cLine):LtN n s (.ref a) (.ref b) (lD x y):=by
 obtain⟨oa,ia,na,hoa,ca,da,ha⟩:=ha;obtain⟨ob,ib,nb,hob,cb,db,hb⟩:=hb;have Ta:s.TypeIs (.ref a) "tuple":=#[oa,hoa,ca];have Tb:s.TypeIs (.ref b) "tuple":=#[ob,hob,cb];intro A hA prog' w' E Q hQ;refine Po (op:=.Lt) Ta Tb F.slot_tuple_lt (Qt (Sy F.slot_tuple_lt.plain F.entry_tuple_lt (F.slot_tuple_lt.check _ _ _ _ _ _ _ _ Ta (F.args_tuple_lt_2 _ _) ?_))) ∅;show wpAny _ _ (isInstance (.ref b) (.type "tuple")>>=_) _ _ s;refine Aa (Ed Tb Iz ?_)
 ac_rfl
 refine Aa (Ig hoa da ?_);refine Aa (Ig hob db ?_);refine Aa (Es (Q:=λr s'=>s'=s/\(match r.1 with|some v=>v=.done (.ret (.bool (lD x y)))|none=>lD x y=decide (x.length<y.length))) ?_ (λr s' h=>?_) λ_ _ z=>z)
 ·clear hQ hoa hob da db ca cb Ta Tb;generalize ia.toList=us at ha⊢;generalize ib.toList=vs at hb⊢;induction ha generalizing y vs with
  |nil=>
   rw[List.zip_nil_left,Ii];refine Ac #[rfl,?_];cases hb<;>rfl
  |@cons i u x us h1 t1 ih=>
   cases hb with
   |nil=>
    rw[List.zip_nil_right,Ii];exact Ac #[rfl,rfl]
   |@cons j v y vs h2 t2=>
    obtain⟨tu,rfl⟩:=Ez h1;obtain⟨tv,rfl⟩:=Ez h2;rw[Ly,Gq];refine Aa (Aa (Ot ?_));by_cases ij:i=j
    ·subst ij;rw[beq_self_eq_true]
     ac_rfl
     refine Ac ?_;dsimp only;have:=ih vs t2;have e1:lD (i::x) (i::y)=lD x y:=by rw[lD,if_pos rfl]
     have e2:decide ((i::x).length<(i::y).length)=decide (x.length<y.length):=by simp
     rw[e1,e2];exact this
    ·rw[beq_eq_false_iff_ne.mpr ij];have e1:lD (i::x) (j::y)=decide (i<j):=by rw[lD,if_neg ij]
     rw[e1];simp only[Jn,if_true];refine Aa (Hr (Aa (LtN.ints (n+3) s i j tu tv A.in1 (by show A.units+1<=n+3;lia) prog' w' _ _ ?_)));exact Aa (Ac (Ac (Ac #[rfl,rfl])))
 ·obtain⟨rfl,h⟩:=h;obtain⟨r,u⟩:=r;cases r with
  |some v=>
   have h:v=_:=h;subst h;exact Ac #[(λz=>nomatch z),hQ]
  |none=>
   have h:lD x y=_:=h;rw[ha.length,hb.length,As,As]at h;refine Ac #[(λz=>nomatch z),?_];rw[h]at hQ;exact hQ
section
variable {prog:Program}{w:World}{K:Type} [DecidableEq K]{knd:#v[59]}{A:Around}
structure Met(val:Nat->K)(adr:Nat->Addr)(i:Nat)(xs:List (K×Addr)):Prop where
 from':∀x∈xs,∃j,j<i/\x=(val j,adr j)
 all:∀j,j<i->∃x∈xs,x.1=val j
 len:xs.length<=i
def oW{n:Nat}
  (D:tU knd) (W:WalksS prog w A.in1 I fp wr G n P St) (S:Addr) (hSf:S∉fp) (hu:knd.room A.in1) (l:Bool)
  (val:Nat->K) (adr:Nat->Addr) (hval:∀i v,P i v->v=.ref (adr i)) (hn:∀i xs,i<n->Met val adr i xs->(xs.map (·.1)).Nodup->xs.length<4) (hnt:∀i s,St i s->∀b∈wr,∀o,s.heap.get? b=some o->o.cls≠.type "tuple"):
  ∀(k i:Nat)(s:Shared)(xs:List (K×Addr)),n-i=k->i<=n->St i s->(∀j,j<n->knd.is s.heap (val j) (adr j))->
   lW knd s S l xs->Met val adr i xs->
   (∀s' xs',Moved (S::wr) G s s'->lW knd s' S l xs'->Met val adr n xs'->(∀b o,o.cls=.type "tuple"->s.heap.get? b=some o->s'.heap.get? b=some o)->R (.ok (.ret .none)) s')->
   codeAny #v[70] A #v[86] R s:=by
 have hSw:S∉wr:=λh=>hSf (W.sub _ h);have hsub:∀b∈wr,b∈S::wr:=λb hb=>Af _ hb;intro k;induction k with
 |zero=>
  intro i s xs hk hi hst hkey hS hm0 hR;have hin:i=n:=by lia
  subst hin;refine Da Eo ?_;rw[Bt Cf _];show wpAny _ A.in1 (pyNext (.ref I)>>=_) _ _ s;refine Aa (W.done s _ _ hst λs' hm=>?_);have ht:∀b o,o.cls=.type "tuple"->s.heap.get? b=some o->s'.heap.get? b=some o:=λb o hc e=>hm.heap b o (λhb=>hnt _ _ hst b hb o e hc) e;show wpAny _ A.in1 (ret Bn) _ _ s';exact Ac (hR s' xs (hm.mono hsub) (hS.at D (λo e=>hm.heap S o hSw e) ht) hm0 ht)
 |succ k ih=>
  intro i s xs hk hi hst hkey hS hm0 hR;have hlt:i<n:=by lia
  refine Da Eo ?_;rw[Bt Cf _];show wpAny _ A.in1 (pyNext (.ref I)>>=_) _ _ s;refine Aa (W.item i s _ _ hlt hst λv s' hP hst' hm=>?_);obtain rfl:=hval i v hP;have ht:∀b o,o.cls=.type "tuple"->s.heap.get? b=some o->s'.heap.get? b=some o:=λb o hc e=>hm.heap b o (λhb=>hnt _ _ hst b hb o e hc) e;have hS':=hS.at D (λo e=>hm.heap S o hSw e) ht;have hk':∀j,j<n->knd.is s'.heap (val j) (adr j):=λj hj=>D.mono (hkey j hj) ht;show wpAny _ A.in1 (holding [Ao (adr i)] (setAdd S (.ref (adr i)))>>=_) _ _ s';refine Aa (Bq ?_);unfold setAdd;refine Bq ?_;refine Aa (knd.pyHash (k:=val i) hu (hk' i hlt) ?_);have hS2:lW knd {s' with toks:=s'.toks+knd.draws (val i)} S l xs:=hS'.at D (λ_ e=>e) λ_ _ _ e=>e;refine pI D hS2 (hn i xs hlt hm0 (by obtain⟨_,_,_,_,z,_⟩:=hS2;exact z.nd)) hu (hk' i hlt) (λhold=>?_) (λhnew h' xs' hsb pm S3=>?_)
  ·refine Ac #[Ee Cf _,ih (i+1) _ xs ∅ hlt (W.frame _ s' _ _ hst' (Co _ _) λb hb o e=>e) hk' hS2 #[λx hx=>?_,λj hj=>?_,by have:=hm0.len;lia] λs'' xs'' hm'' S'' M'' ht''=>?_]
   ·obtain⟨j,h1,h2⟩:=hm0.from' x hx;exact#[j,∅,h2]
   ·by_cases e:j=i
    ·subst e;exact hold
    ·exact hm0.all j ∅
   ·exact hR s'' xs'' (Nh W.gtrans ((hm.mono hsub).then_heap (Co _ _) λb o hb e=>e) hm'') S'' M'' λb o hc e=>ht'' b o hc (ht b o hc e)
  ·have hSt:∀b o,o.cls=.type "tuple"->s'.heap.get? b=some o->h'.get? b=some o:=λb o hc e=>by
    have ne:b≠S:=by
     rintro rfl;obtain⟨o2,_,_,_,z,_⟩:=hS';rw[z.ho]at e;cases e;rw[z.hex.1]at hc;exact absurd hc ⋯
    rw[hsb.2 b ne];exact e
   refine Ac #[Ee Cf _,ih (i+1) _ xs' ∅ hlt (W.frame _ s' _ _ hst' (Co _ _) λb hb o e=>?_) (λj hj=>D.mono (hk' j hj) hSt) S3 #[λx hx=>?_,λj hj=>?_,by have:=hm0.len;rw[pm.length_eq,Am];lia] λs'' xs'' hm'' S'' M'' ht''=>?_]
   ·rw[hsb.2 b (λh:b=S=>hSf (by rw[<-h];exact hb))];exact e
   ·rcases List.mem_cons.mp (pm.mem_iff.mp hx)with e|m
    ·exact#[i,∅,e]
    ·obtain⟨j,h1,h2⟩:=hm0.from' x m;exact#[j,∅,h2]
   ·by_cases e:j=i
    ·subst e;exact#[_,pm.mem_iff.mpr Ah,rfl]
    ·obtain⟨x,hx,ex⟩:=hm0.all j ∅;exact#[x,pm.mem_iff.mpr (Af _ hx),ex]
   ·refine hR s'' xs'' (Nh W.gtrans ((hm.mono hsub).then_heap (Co _ _) λb o hb e=>?_) hm'') S'' M'' λb o hc e=>ht'' b o hc (hSt b o hc (ht b o hc e));rw[hsb.2 b (λh:b=S=>hb (by rw[h];exact Ah))];exact e
end
variable {A:Around}{E:#v[7]}
def aBo(a:Value)
  (h:Q₁ #v[32] {s with heap:=s.heap.push {cls:=.type "set",dict:=none,data:=.set (List.toArray []) 0 (.fresh 0 0 (!w.params.followText "set-order"))}}):
  codeAny #v[70] A (.call (.builtin "set.__new__") #[[.type "set",a],[]]) (wants Q₁ E) s:=by
 refine Xd ?_;show wpAny _ A.in1 (do checkBuiltinCall "set.__new__" #[[.type "set",a],[]];again (.builtin "set.__new__" #[[.type "set",a],[]])) _ _ s;refine Aa (Kv (F.newCall_set_1 a) (Ac #[Ee Vu _,Da F.entry_set_new ?_]));rw[Bt Vu _];unfold Builtin.«set.__new__» Sw;have hsub:=sub_set_self;obtain⟨hp,g,d,tk,os⟩:=s;dsimp only
 wp_walk
 refine Jj (Ac ?_);dsimp only;simp only[newObj];refine Aa (wpAny_alloc (Ac ?_));exact Ac h
section
variable {prog:Program}{w:World}{K:Type} [DecidableEq K]{knd:#v[59]}{A:Around}{E:#v[7]}{s:Shared}
def lW.fresh(s:Shared){a:Addr}(l:Bool)(h:s.heap.get? a=some {cls:=.type "set",dict:=none,data:=.set (List.toArray []) 0 (.fresh 0 0 l)}):lW knd s a l []:=
 #[_, (List.toArray []),0,_,#[h,#[rfl,rfl,rfl],rfl,rfl,#[rfl,λi k h1 h2=>absurd h2 (Dz _),λj hj=>(nomatch hj),Bg _,SetTable.aW2],rfl,λx hx=>(nomatch hx),Gg,λi j x h1 h2=>(nomatch h2)],#[rfl,Bg _],rfl,rfl]
def aW6(prog:Program)(w:World)(n:Nat)(P:Nat->Value->Prop)(u:Nat)(s:Shared)(S:Addr)(led:Bool)(Z:Shared->Prop):Prop:=
 ∀{A:Around}{R:Result->Shared->Prop}{I:Addr}{fp wr:List Addr}{G:Array GenState->Array GenState->Prop}{St:Nat->Shared->Prop}(s1:Shared),WalksS prog w A.in1 I fp wr G n P St->S∉fp->A.in1.units<=u+8->
  (∀i s,St i s->∀b∈wr,∀o,s.heap.get? b=some o->o.cls≠.type "tuple")->St 0 s1->(∀b o,s.heap.get? b=some o->s1.heap.get? b=some o)->s1.heap.get? S=some {cls:=.type "set",dict:=none,data:=.set (List.toArray []) 0 (.fresh 0 0 led)}->
  (∀s',Moved (S::wr) G s1 s'->Z s'->R (.ok (.ret .none)) s')->codeAny #v[70] A #v[86] R s1
def vV(Z:Shared->Prop)(hh:#v[O])(hl:s.heap.IsList l items)
  (L:aW6 prog w items.size (λi v=>items[i]? =some v) A.units s #v[0] (!w.params.followText "set-order") Z)
  (h:∀(h':Heap)(tk:Nat),Z {s with heap:=h',toks:=tk}->(∀b o,b<#v[0]->s.heap.get? b=some o->h'.get? b=some o)->Q #v[32] {s with heap:=h',toks:=tk}):
  #v[2] (call (.type "set") [.ref l]) Q E s:=by
 obtain⟨c,tl,hmro⟩:=F.called_set.mro;have hmade:=F.called_set.made;have hsub:=F.called_set.sub;refine Qt (Xd ?_);show wpAny _ _ (callAny (.type "set") _) _ _ _;refine Ac #[Code.quiet_builtin _ #v[5],Da F.entry_type_call ?_];rw[Around.under_plain (weight_type_call_type "set" [.ref l] []) rfl];have h1:=F.called_set.notType;have h2:=F.called_set.canCreate;have hct:=F.typeCall_set_1 (.ref l)
 repeat (any_goals (first|assumption|wp_step))
 generalize hled:(!w.params.followText "set-order")=led at L;refine Kc (aBo (.ref l) (E:=E) (Q₁:=λobj s₁=>obj=.ref #v[0]/\s₁={s with heap:=s.heap.push {cls:=.type "set",dict:=none,data:=.set (List.toArray []) 0 (.fresh 0 0 led)}}) #[rfl,by rw[hled]]) λr s₁ hr=>?_;cases r with
 |error e=>exact hr
 |ok fl=>
  cases fl with
  |ret obj=>
   obtain⟨rfl,rfl⟩:=hr;have hS:#v[c].get? #v[0]=some {cls:=.type "set",dict:=none,data:=.set (List.toArray []) 0 (.fresh 0 0 led)}:=Ap _ rfl;have hT:Jt {s with heap:=s.heap.push {cls:=.type "set",dict:=none,data:=.set (List.toArray []) 0 (.fresh 0 0 led)}} #v[32] "set":=#[_,hS,rfl];have hli:=F.called_set.init.lookup;have hbi:=F.called_set.init.bind #v[32]
   repeat (any_goals (first|assumption|wp_step))
   refine Kc (Sy (R:=wants (λr s₂=>r=.none/\∃h' tk,s₂={s with heap:=h',toks:=tk}/\Z {s with heap:=h',toks:=tk}/\
     (∀b o,b<#v[0]->s.heap.get? b=some o->h'.get? b=some o)) E) F.called_set.init.plain F.entry_set_init (check_set_init_1 hT ?_)) λr₂ s₂ hr₂=>?_
   ·obtain⟨ol,hol,hcl,nl,hdl⟩:=hl;obtain⟨ocls,odict,odata,oslots⟩:=ol;simp only at hcl hdl;subst hcl;subst hdl;have hol':#v[c].get? l=some {cls:=.type "list",dict:=odict,data:=.seq items nl,slots:=oslots}:=Ae _ hol;have hsls:=F.sub_list_set;have hslf:=F.sub_list_frozenset;have hne:(Ge "list"==Ge "dict")=false:=by decide
    have hl1:#v[c].IsList l items:=#[_,hol',rfl,nl,rfl];unfold Builtin.«set.__init__» noKeywords Sr;generalize hPI:pyIter=PI
    wp_walk
    subst hPI;refine Ir hl1 ?_;refine Aa (wpAny_runValue ?_);have hlS:l<#v[0]:=Ar hol;have hh3:A.in1.in1.in1.handled=none:=by simp[hh]
    have hneI:l≠#v[c].objs.size:=by
     rw[Ck];exact Aw (Hg hlS)
    have hSf:#v[0]∉[#v[c].objs.size,l]:=by
     rw[Ck];simp only[Cr,Du,Bz,or_false,not_or];exact#[Aw (Fj _),Fc hlS]
    have keep2:∀b o,s.heap.get? b=some o->(#v[c].push {cls:=.type "list_iterator",data:=.fields (List.toArray [.ref l,.int 0 0])}).get? b=some o:=λb o e=>Ae _ (Ae _ e);refine L _ ((Oj hh3 _ l hneI items).toS) hSf (by simp[Around.in1]) ?hnt #[#[_,Ap _ rfl,rfl,rfl],(hl1.push _)] keep2 (Ae _ hS) ?hR
    case hnt=>
     rintro i s2 ⟨⟨o2,g1,g2,_⟩,_⟩ b hb o e hc;have hb:=List.mem_singleton.mp hb;subst hb;rw[g1]at e;cases e;rw[g2]at hc;exact absurd hc ⋯
    case hR=>
     intro s' hm hS';obtain⟨h',g',d',tk',os'⟩:=s';have eg:g'=s.gens:=hm.gens;have ed:d'=s.drawn:=hm.drawn;have eo:os'=s.os:=hm.os;subst eg;subst ed;subst eo;show wpAny _ _ _ _ _ _;refine Ac ?_;show wpAny _ _ (ret Bn) _ _ _;refine Ac #[rfl,h',tk',rfl,hS',λb o hb e=>?_];have hb1:b≠#v[0]:=Aw hb;have hb2:b≠#v[c].objs.size:=by
      rw[Ck];exact Aw (Hg hb)
     exact hm.heap b o (by simp only[Cr,Du,Bz,or_false,not_or];exact#[hb1,hb2]) (keep2 b o e)
   ·cases r₂ with
    |error e=>exact hr₂
    |ok fl₂=>
     cases fl₂ with
     |ret r=>
      obtain⟨rfl,h',tk,rfl,hS',hk'⟩:=hr₂
      repeat (any_goals (first|assumption|wp_step))
      exact h _ _ hS' hk'
     |_=>exact hr₂.elim
  |_=>exact hr.elim
def aA7(D:tU knd)(hu:∀A':Around,A'.units<=A.units+8->knd.room A')
  (hh:#v[O]) (hl:s.heap.IsList l items) (hi:∀(i:Nat)(v:Value),items[i]? =some v->v=Ao (adr i)) (hk:∀j,j<items.size->knd.is s.heap (val j) (adr j)) (hb:∀i xs,i<items.size->Met val adr i xs->(xs.map (·.1)).Nodup->xs.length<4)
  (h:∀(h':Heap)(tk:Nat)(xs:List (K×Addr)),lW knd {s with heap:=h',toks:=tk} #v[0] (!w.params.followText "set-order") xs->Met val adr items.size xs->
   (∀b o,b<#v[0]->s.heap.get? b=some o->h'.get? b=some o)->Q #v[32] {s with heap:=h',toks:=tk}):
  #v[2] (call (.type "set") [.ref l]) Q E s:=
 vV (λs'=>∃xs,lW knd s' #v[0] (!w.params.followText "set-order") xs/\Met val adr items.size xs) hh hl
  (λs1 W hSf hA hnt st kp hS hR=>oW D W #v[0] hSf (hu _ hA) _ val adr hi hb hnt (items.size-0) 0 s1 [] ∅ (Bg _) st (λj hj=>D.mono (hk j hj) λb o _ e=>kp b o e) (lW.fresh _ _ hS) #[λx hx=>(nomatch hx),λj hj=>absurd hj (Dz _),Bg _] λs' xs' hm S M _=>hR s' hm #[xs',S,M])
  λh' tk ⟨xs,S,M⟩ kp=>h h' tk xs S M kp
end
open PyProof.Rows PySem.W
structure aA3{prog:Program}{w:World}{α:Type} [DecidableEq α](knd:HeapKind prog w α)(ok:α->Prop)(lt:α->α->Bool):Prop where
 set:tU knd
 tot:∀x y,x≠y->lt x y=true∨lt y x=true
 asym:∀x y,lt x y=true->lt y x=false
 trans:∀x y z,lt x y=true->lt y z=true->lt x z=true
 first:∀{h:Heap}{k:α}{a:Addr},ok k->knd.is h k a->∃o items n i tk,h.get? a=some o/\o.cls=.type "tuple"/\o.data=.seq items n/\items[0]? =some (Ec i tk)
 cmp:∀{A:Around}{E:#v[7]}{b:Bool}{s:Shared}{x y:α}{p q:Addr}{Q:Bool->Shared->Prop},A.units+10<cLine->knd.is s.heap x p->knd.is s.heap y q->Q (lt x y) s->#v[2] (keyLt' (tuples' b) (.ref p) (.ref q)) Q E s
section
variable {prog:Program}{w:World}{A:Around}{E:#v[7]}{s:Shared}{α:Type} [DecidableEq α] [Inhabited α]{knd:HeapKind prog w α}{ok:α->Prop}{lt:α->α->Bool}
def xH(knd:HeapKind prog w α)(ok:α->Prop)(h:Heap)(xs:List (α×Addr)):Prop:=∀x∈xs,ok x.1/\knd.is h x.1 x.2
def xH.mono(O:aA3 knd ok lt){xs:List (α×Addr)}(T:xH knd ok h xs)(hs:∀b o,o.cls=.type "tuple"->h.get? b=some o->h'.get? b=some o):xH knd ok h' xs:=λx hx=>#[(T x hx).1,O.set.mono (T x hx).2 hs]
def xH.kat(O:aA3 knd ok lt):∀{xs:List (α×Addr)},xH knd ok h xs->∃fs:List Value,fs.length=xs.length/\(∀v∈fs,∃i tk,v=Ec i tk)/\KatTups h (xs.map λx=>Ao x.2) fs
 | [],_=>#[[],rfl,λv hv=>(nomatch hv),KatTups.nil]
 |x::xs,T=>by
  obtain⟨fs,f1,f2,f3⟩:=xH.kat O (xs:=xs) λy hy=>T y (Af _ hy);obtain⟨o,items,n,i,tk,ho,hc,hd,hf⟩:=O.first (T x Ah).1 (T x Ah).2;refine#[.int i tk::fs,by rw[Am,Am,f1],λv hv=>?_,KatTups.cons ho hc hd hf f3];rcases List.mem_cons.mp hv with rfl|hv
  ·exact#[_,_,rfl]
  ·exact f2 v hv
def aB1{α:Type}{xs:List α}{p:List Nat}(hp:p.Perm (Bh xs.length)):(p.filterMap λi:Nat=>xs[i]?).Perm xs:=by
 have:=hp.filterMap λi:Nat=>xs[i]?;rw[yN]at this;exact this
def aT8(prog:Program)(w:World)(A:Around)(E:#v[7])(lt:α->α->Bool)(xs:List (α×Addr))(s:Shared):Prop:=∀b,#v[2] ((sortRuns').run (SortSt.mk' (tuples' b) #v[44] (List.toArray []) 7 none)) (λr s'=>s'=s/\∃p:Array Nat,p.size=xs.length/\arrOf r.2=p.map (kas_item #v[44])/\failedOf r.2=none/\mZ xs.length p/\nY (λi j=>lt #v[U].1 (xs.getD j (default,0)).1) p xs.length) E s
def aSn(O:aA3 knd ok lt)(hu:A.units+20<cLine){xs:List (α×Addr)}(T:xH knd ok s.heap xs){b:Bool}(hi:i<xs.length)(hj:j<xs.length)(hC:C (lt #v[U].1 (xs.getD j (default,0)).1) s):kas_ask prog w A (tuples' b) (xs.map λx=>Ao x.2) i j C s:=by
 have keyd:∀i,i<xs.length->xs[i]? =some #v[U]/\(xs.map λx=>Ao x.2).getD i Bn=.ref #v[U].2:=λi hi=>by simp[Jx,hi]
 obtain⟨a1,a2⟩:=keyd i hi;obtain⟨b1,b2⟩:=keyd j hj;show wpAny _ _ (keyLt' _ ((xs.map λx=>Ao x.2).getD i Bn) ((xs.map λx=>Ao x.2).getD j Bn)) _ _ _;rw[a2,b2];exact O.cmp ∅ (T _ (Ai a1)).2 (T _ (Ai b1)).2 hC
def aCw(O:aA3 knd ok lt){a:Addr}{xs:List (α×Addr)}{n:Nat}{P:Fin->Shared->Prop}(ho:s.heap.get? a=some (seqObj "list" (xs.map λx=>Ao x.2).toArray n))
  (T:xH knd ok s.heap xs) (hz:xs.length<=10000) (run:∀s1:Shared,xH knd ok s1.heap xs->2<=xs.length->aT8 prog w A E lt xs s1)
  (h:#v[L]):
  #v[2] (Builtin.«list.sort» #[[.ref a],[]]) P E s:=by
 rw[list_sort_plain];have ha:a<#v[0]:=Ar ho;generalize hvs:(xs.map λx=>Ao x.2)=vs at ho h;have vl:vs.length=xs.length:=by rw[<-hvs,Ab]
 refine Aa (listItems_at ho rfl ?_);refine Aa (Rj ho rfl ?_ (by rw[Ak,Dy];lia) (Bg _));obtain⟨e1,ho1⟩:∃e1,(s.heap.update a (Dj λ_=> (List.toArray []))).get? a=some (seqObj "list" (List.toArray []) e1):=#[_,get?_update_seq ho (λ_=> (List.toArray []))];refine Aa (Tu ho1 rfl ?_);refine Aa (Qg ?_ (by show vs.length<=_;rw[Dy];lia));refine Aa (Rf ?_ (Bg _));refine Bq ?_;have kp:∀b o,b≠a->s.heap.get? b=some o->(#v[B].push (seqObj "list" (List.toArray []) 0)).get? b=some o:=λb o hb e=>
  Ae _ (Ae _ (#v[90].trans e))
 have ho6:(#v[B].push (seqObj "list" (List.toArray []) 0)).get? a=some (seqObj "list" (List.toArray []) e1):=Ae _ (Ae _ ho1);show #v[2] _ P E {s with heap:=#v[B].push (seqObj "list" (List.toArray []) 0)};dsimp only;generalize hH:#v[B].push (seqObj "list" (List.toArray []) 0)=H at ho6 kp;have T6:xH knd ok H xs:=T.mono O λb o hc e=>kp b o (λz=>by subst z;rw[ho]at e;cases e;exact absurd (show Ge "list"=Ge "tuple" from hc) ⋯) e;have fin:∀out:Array Value,sortedHeap s.heap a vs out=H.update a (Dj λ_=>out):=λout=>by rw[<-hH];rfl
 by_cases h2:vs.toArray.size<2
 ·rw[if_pos h2,if_pos h2];refine Aa (Ac ?_);rw[StateT.run_pure];refine Aa (Ac ?_);dsimp only;refine Aa (Tu ho6 rfl ?_);have ev:(pairsOf vs).map (·.2)=vs.toArray:=by
   apply Array.toList_inj.mp;rw[Array.toList_map,pairsOf_toList];exact List.map_snd_zip (Aj _)
  have hz:((pairsOf vs).map (·.2)).size<=sizeLine+1:=by rw[ev,Ak,Dy];lia
  refine Aa (Rj ho6 rfl ?_ (Bg _) hz);simp only[bne_self_eq_false,Cm,if_false];refine Ac ?_;have q:=h xs (Jc _) (by
   rw[Ak,vl]at h2;match xs,h2 with
   | [],_=>exact .nil
   | [x],_=>exact Kd _ _)
  rw[fin,hvs]at q;have q':P (.done (.ret .none)) {s with heap:=H.update a (Dj λ_=>(pairsOf vs).map (·.2))}:=by rw[ev];exact q
  exact q'
 ·rw[if_neg h2,if_neg h2];rw[Ak]at h2;obtain⟨fs,f1,f2,f3⟩:=xH.kat O T6;rw[hvs]at f3;refine Aa (kat_kind (T:=Ge "int") f3 ∅ (λv hv=>?_) rfl ?_)
  ·obtain⟨i,tk,rfl⟩:=f2 v hv;exact Looks.of_pure rfl
  ·have keyd:∀i,i<xs.length->xs[i]? =some #v[U]/\vs.getD i Bn=.ref #v[U].2:=λi hi=>by
    rw[<-hvs];simp[Jx,hi]
   have rn:=run {s with heap:=H} T6 ∅;unfold aT8 at rn;rw[hvs]at rn;refine Aa (Es (rn _) ?_ λ_ _ e=>e);rintro⟨⟨⟩,st'⟩ s' ⟨rfl,p,hp,har,hf,hT,hR⟩;dsimp only;have hout:=kat_snds rfl har;have pm:p.toList.Perm (Bh xs.length):=hT;have ey:(p.toList.map λi=>vs.getD i Bn)=(p.toList.filterMap λi:Nat=>xs[i]?).map λx=>Ao x.2:=by
    rw[Rn];have:∀l:List Nat,(∀i∈l,i<xs.length)->(l.map λi=>vs.getD i Bn)=l.filterMap λi:Nat=>(xs[i]?).map λx=>Ao x.2:=by
     intro l;induction l with
     |nil=>intro _;rfl
     |cons i l ih=>
      intro hl;obtain⟨a1,a2⟩:=keyd i (hl i Ah);rw[Ba,Ji,a1,ih λj hj=>hl j (Af _ hj),a2];rfl
    exact this _ λi hi=>List.mem_range.mp (pm.mem_iff.mp hi)
   have hsz:(Vn (p.toList.map λi=>vs.getD i Bn)).size<=sizeLine+1:=by rw[Ak,Ab,As,hp,Dy];lia
   refine Aa (Tu ho6 rfl ?_);rw[hout];refine Aa (Rj ho6 rfl ?_ (Bg _) hsz);rw[hf];simp only[bne_self_eq_false,Cm,if_false];refine Ac ?_;have q:=h (p.toList.filterMap λi:Nat=>xs[i]?) (aB1 pm) (by
    rw[On];intro i j hi hj hij;have pl:p.toList.length=xs.length:=by rw[pm.length_eq,Cw]
    have fl:=(aB1 pm).length_eq;have gt:∀r,(hr:r<(p.toList.filterMap λi:Nat=>xs[i]?).length)->(p.toList.filterMap λi:Nat=>xs[i]?)[r]=xs.getD (vAt p r) (default,0):=λr hr=>by
     have hr':r<p.toList.length:=by lia
     have e1:=filterMap_get (f:=λi:Nat=>xs[i]?) (l:=p.toList) (λi hi=>#[_,Ag (List.mem_range.mp (pm.mem_iff.mp hi))]) r;rw[Ag hr,Ag hr']at e1;have e2:vAt p r=p.toList[r]:=by rw[kO, <-Cj,Ag hr'];rfl
     rw[e2];have lt:p.toList[r]<xs.length:=List.mem_range.mp (pm.mem_iff.mp (Im hr'));have e3:(some p.toList[r]).bind (λi:Nat=>xs[i]?)=some (xs.getD p.toList[r] (default,0)):=(keyd _ lt).1;rw[e3]at e1;exact Bi e1
    rw[gt i hi,gt j hj];exact hR i j hij ∅)
   rw[fin, <-ey]at q;exact q
def aAv(O:aA3 knd ok lt)(hu:A.units+20<cLine){a:Addr}{xs:List (α×Addr)}{n:Nat}{P:Fin->Shared->Prop}(ho:s.heap.get? a=some (seqObj "list" (xs.map λx=>Ao x.2).toArray n))
  (T:xH knd ok s.heap xs) (nd:(xs.map (·.1)).Nodup) (h64:xs.length<64)
  (h:#v[L]):
  #v[2] (Builtin.«list.sort» #[[.ref a],[]]) P E s:=by
 refine aCw O ho T ∅ (λs1 T1 h2 b=>?_) h;have S:qG xs.length λi j=>lt #v[U].1 (xs.getD j (default,0)).1:=by
  refine#[λi j hi hj ne=>O.tot _ _ λz=>ne ?_,λi j=>O.asym _ _,λi j k=>O.trans _ _ _];have li:i<(xs.map (·.1)).length:=by rw[Ab];exact hi
  have lj:j<(xs.map (·.1)).length:=by rw[Ab];exact hj
  refine(Io (h₀:=li) (h₁:=lj) nd).mp ?_;simpa[Jx,hi,hj]using z
 have wy:=aP5 S ∅;have vl:(xs.map λx=>Ao x.2).length=xs.length:=Ab ..;refine kat_run (Q:=λst' s'=>s'=s1/\∃p:Array Nat,p.size=xs.length/\arrOf st'=p.map (kas_item #v[44])/\failedOf st'=none/\mZ xs.length p/\nY (λi j=>lt #v[U].1 (xs.getD j (default,0)).1) p xs.length) (G:=λp s'=>s'=s1/\mZ xs.length p/\nY (λi j=>lt #v[U].1 (xs.getD j (default,0)).1) p xs.length) rfl ∅ ∅ (λp st' s' a1 a2 a3 a4=>#[a4.1,p,a1.trans vl,a2,a3,a4.2]) ?_;rw[vl];exact KasT.way_wp (lt:=λi j=>lt #v[U].1 (xs.getD j (default,0)).1) (P:=(·<xs.length)) (λi j C hi hj hC=>aSn O hu T1 hi hj hC) (λp hp=>#[rfl,hp]) _ wy
def aHc(O:aA3 knd ok lt)(hu:A.units+30<cLine){xs:List (α×Addr)}(hh:#v[O])(I:lW knd s S (!w.params.followText "set-order") xs)(ne:∀x∈xs,ok x.1)(h64:xs.length<64)
  (h:∀(h':Heap)(tk:Nat)(l:Addr)(e:Nat)(ys:List (α×Addr)),ys.Perm xs->ys.Pairwise (λx y=>lt x.1 y.1=true)->#v[0]<=l->h'.get? l=some (seqObj "list" (ys.map λx=>Ao x.2).toArray e)->
   (∀b o,s.heap.get? b=some o->h'.get? b=some o)->Q (.ref l) {s with heap:=h',toks:=tk}):
  #v[2] (call (.builtin "sorted") [.ref S]) Q E s:=by
 obtain⟨o,es,ep,t,I,sm,pl,ld⟩:=I;refine Oi kind_sorted plain_sorted entry_sorted (args_sorted1 _) ?_;unfold Builtin.«sorted»;refine Aa (m:=checkCount "sorted" 1 1 _) (Ac ?_);have esz:es.size<64:=by rw[I.len];exact h64
 refine Aa (oJ (by simpa using hh) I.ho I.hex I.hd I.fits I.good.rise pl ld (by rw[Dy];lia) λh1 tk1 s1 k1=>?_);have op:=lK w S es ep;have eo:es.toList.map (·.2)=xs.map λx=>Ao x.2:=by rw[I.he,Au];rfl
 rw[eo]at op;obtain⟨zs,pz,ez⟩:∃zs:List (α×Addr),zs.Perm xs/\gW w S es ep=zs.map λx=>Ao x.2:=by
  have:∀{l:List Value}{xs:List (α×Addr)},l.Perm (xs.map λx=>Ao x.2)->∃zs:List (α×Addr),zs.Perm xs/\l=zs.map λx=>Ao x.2:=λ{l xs} hp=>by
   generalize hm:(xs.map λx=>Ao x.2)=m at hp;induction hp generalizing xs with
   |nil=>exact#[xs,Jc _,hm.symm]
   |cons a p ih=>
    match xs,hm with
    |x::xs,hm=>
     obtain⟨e1,e2⟩:=Dh hm;obtain⟨zs,z1,z2⟩:=ih e2;exact#[x::zs,z1.cons x,by rw[z2, <-e1];rfl]
   |swap a b l=>
    match xs,hm with
    |x::y::xs,hm=>
     obtain⟨e1,e2⟩:=Dh hm;obtain⟨e2,e3⟩:=Dh e2;exact#[y::x::xs,Qz _ _ _,by rw[<-e1, <-e2, <-e3];rfl]
   |trans p1 p2 ih1 ih2=>
    obtain⟨zs,z1,z2⟩:=ih2 hm;obtain⟨us,u1,u2⟩:=ih1 z2.symm;exact#[us,u1.trans z1,u2]
  exact this op
 rw[ez];have zl:zs.length=xs.length:=pz.length_eq;refine Aa (Rf ?_ (by rw[Ab,Dy];lia));have hoL:(h1.push (seqObj "list" (zs.map λx=>Ao x.2).toArray 0)).get? h1.objs.size=some (seqObj "list" (zs.map λx=>Ao x.2).toArray 0):=Ap _ rfl;have T1:xH knd ok (h1.push (seqObj "list" (zs.map λx=>Ao x.2).toArray 0)) zs:=λx hx=>#[ne x (pz.mem_iff.mp hx),O.set.mono (I.keys x (pz.mem_iff.mp hx)) λb o _ e=>Ae _ (k1 b o e)];refine Aa (Bq (Bl slot_list_sort #[_,hoL,rfl] entry_list_sort (aAv O (by first|lia|(show A.units+1+20<cLine;lia)|(show A.units+2+20<cLine;lia)|(show A.units+3+20<cLine;lia)) hoL T1 (by rw[(pz.map (·.1)).nodup_iff];exact I.nd) ∅ λys py hy=>#[_,rfl,?_]) (args_list_sort _)));refine Ac #[_,rfl,?_];obtain⟨e,he⟩:=sortedHeap_at (out:=(ys.map λx=>Ao x.2).toArray) hoL;refine h _ tk1 _ e ys (py.trans pz) hy (Fd s1) he λb o q=>?_;have hb:b<h1.objs.size:=Ar (k1 b o q);rw[sortedHeap_old (Aw hb) (by rw[Ck];exact Hg hb)];exact Ae _ (k1 b o q)
end
def wR(x y:Int×List Int):Bool:=if x.1=y.1 then lD x.2 y.2 else decide (x.1<y.1)
def aRm(hv:∀k v,#v[37].is k v=true->∃i tk,v=Ec i tk):aA3 (cY #v[37]) (λ_=>True) wR where
 set:=aMh hv
 tot:=λx y ne=>by
  unfold wR;by_cases e:x.1=y.1
  ·rw[if_pos e,if_pos e.symm];exact aEv _ _ λz=>ne (Ng e z)
  ·rw[if_neg e,if_neg (Cg e),decide_eq_true_iff,decide_eq_true_iff]
   lia
 asym:=λx y h=>by
  unfold wR at h⊢;by_cases e:x.1=y.1
  ·rw[if_pos e]at h;rw[if_pos e.symm];exact aBz _ _ h
  ·rw[if_neg e,decide_eq_true_iff]at h;rw[if_neg (Cg e),decide_eq_false_iff_not]
   lia
 trans:=λx y z h1 h2=>by
  unfold wR at h1 h2⊢;by_cases e1:x.1=y.1
  ·rw[if_pos e1]at h1;by_cases e2:y.1=z.1
   ·rw[if_pos e2]at h2;rw[if_pos (e1.trans e2)];exact uI _ _ _ h1 h2
   ·rw[if_neg e2,decide_eq_true_iff]at h2;rw[if_neg ∅,decide_eq_true_iff]
    lia
  ·rw[if_neg e1,decide_eq_true_iff]at h1;by_cases e2:y.1=z.1
   ·rw[if_neg ∅,decide_eq_true_iff]
    lia
   ·rw[if_neg e2,decide_eq_true_iff]at h2;rw[if_neg ∅,decide_eq_true_iff]
    lia
 first:=λ_ hk=>by
  obtain⟨o,v,b,n,ho,hc,hd,h1,_⟩:=hk;obtain⟨tk,rfl⟩:=Ez h1;exact#[o,_,n,_,tk,ho,hc,hd,rfl]
 cmp:=λ{A E b s x y p q Q} hu hx hy h=>by
  obtain⟨ox,v,px,nx,h1,h2,h3,h4,h5⟩:=hx;obtain⟨oy,v',py,ny,g1,g2,g3,g4,g5⟩:=hy;obtain⟨tu,rfl⟩:=Ez h4;obtain⟨tv,rfl⟩:=Ez g4;refine kat_lt h1 h3 g1 g3 ?_;show KatLex prog w A b _ Q [(_,_),(_,_)] 0 s;refine kat_cons (Ot ?_);unfold wR at h;by_cases e:x.1=y.1
  ·rw[if_pos e]at h;rw[beq_iff_eq.mpr e];refine kat_yes (kat_cons ((tupleKind #v[37]).eqBool (show A.units<cLine by lia) h5 g5 ?_));by_cases e2:x.2=y.2
   ·rw[decide_eq_true e2];refine kat_yes (kat_nil ?_);rw[e2,aAt]at h;exact h
   ·rw[decide_eq_false e2];refine kat_no ?_;rw[show(b && (0+1==0))=false by cases b<;>rfl];exact kat_one _ _ (LtN.tups (n:=A.units) h5 g5 ∅ A (Aj _) prog w _ _ h)
  ·rw[if_neg e]at h;rw[beq_eq_false_iff_ne.mpr e];refine kat_no ?_;rw[show(b && (0==0))=b by cases b<;>rfl];cases b with
   |true=>exact oneLt_int h
   |false=>exact kat_one _ _ (Np (Q:=PySem.W.BoolBack Q) h)
def aBh(l:Bool)(zs:List Nat):SetTable:={mask:=7,place:=zs.toArray,dummies:= (List.toArray []),finger:=0,led:=l,moves:=0,plain:=true}
def lH(zs:List Nat)(tk:Nat->Tok):Array (Int×Value):=(zs.map λz:Nat=>((z:Int),Ec (z:Int) (tk z))).toArray
def zs1(x:Nat):Bool->List Nat
 |false=>[]
 |true=>[x]
def bBa{l:Bool}{x:Nat}{t:Tok}(hx:x∈[1,2,3]):layNew (aBh l []) (lH [] tk) (x:Int) (.int x t)=(lH [x] (λ_=>t),aBh l [x],false,false):=by
 simp only[Cr,Bz,or_false]at hx;rcases hx with rfl|rfl|rfl<;>cases l<;>kernel_rfl
variable {x:Nat}
def aIj(s:Shared)(a:Addr)(l:Bool)(x:Nat)(b:Bool):Prop:=∃o ep tk,s.heap.get? a=some o/\o.ExactSet/\o.data=.set #v[77] ep (aBh l (zs1 x b))
def aUg(b:Bool)(tk:Nat->Tok):#v[77].size<=1:=by cases b<;>simp[lH,zs1]
def aP1{l b:Bool}(hx:x∈[1,2,3]):(aBh l (zs1 x b)).fits #v[77].size=true:=by
 simp only[Cr,Bz,or_false]at hx;cases b<;>rcases hx with rfl|rfl|rfl<;>rfl
def aPa(hx:x∈[1,2,3]):#v[37].hash (x:Int)=(x:Int):=by
 simp only[Cr,Bz,or_false]at hx;rcases hx with rfl|rfl|rfl<;>rfl
def aXg{b:Bool}(hx:x∈[1,2,3]):ElemsOf #v[37] #v[77].toList:=by
 intro e he;obtain⟨z,hm,rfl⟩:=List.mem_map.mp (show e∈(zs1 x b).map _ from he);obtain rfl:z=x:=by
  cases b
  ·cases hm
  ·exact List.mem_singleton.mp hm
 exact#[#[(z:Int),Qu _ _ _ _,(aPa hx).symm],rfl]
def aBi{a:Addr}{l b:Bool}{t:Tok}{Q:Bool->Shared->Prop}(hx:x∈[1,2,3])(S:aIj s a l x b)(h:∀(b:Bool) h',Dv a s.heap h'->aIj {s with heap:=h'} a l x true->Q b {s with heap:=h'}):
  #v[2] (setAddHashed a (.int x t) (x:Int)) Q E s:=by
 obtain⟨o,ep,tk,ho,hex,hd⟩:=S;have hel:=aXg (prog:=prog) (w:=w) (b:=b) (tk:=tk) hx;have hsz:=aUg (x:=x) b tk;unfold setAddHashed setAddHashedIn;refine Bq (Aa (Ff ho hd (aP1 hx) ?_));dsimp only;rw[byScan_of (knd:=intKind prog w) rfl (by unfold scanBound;lia) hel];simp only[↓reduceIte];unfold setAddByScan;refine Aa ?_;refine Aa (Hr ?_);have hkey:#v[37].is (x:Int) (.int x t)=true:=Qu _ _ _ _;have e1:#v[2] (setScan a (.int x t) (x:Int) true #v[77]) (λr s'=>s'=s/\r=(match #v[77].toList.findIdx? (λe=>#v[37].is (x:Int) e.2)with|some j=> .found (0+j)|none=> .absent)) E s:=by
  have:=wpAny_setScan_of (knd:=intKind prog w) (adding:=true) (A:=A) (E:=E) (Q:=λr s'=>s'=s/\r=(match #v[77].toList.findIdx? (λe=>#v[37].is (x:Int) e.2)with|some j=> .found (0+j)|none=> .absent)) hkey ho hd (aP1 hx) hel #[rfl,rfl];rw[aPa hx]at this;exact this
 refine Aa (Es e1 (λr s' hr=>?_) λ_ _ z=>z);obtain⟨rfl,rfl⟩:=hr;cases b with
 |true=>
  have e:(lH (zs1 x true) tk).toList.findIdx? (λe=>#v[37].is (x:Int) e.2)=some 0:=by
   show List.findIdx? _ [((x:Int),Ec (x:Int) (tk x))]=some 0;rw[List.findIdx?_cons,if_pos (Qu _ _ _ _)]
  rw[e];dsimp only;exact Ac (Ac (h false s'.heap (Wr a s'.heap) #[o,ep,tk,ho,hex,hd]))
 |false=>
  have e:(lH (zs1 x false) tk).toList.findIdx? (λe=>#v[37].is (x:Int) e.2)=none:=rfl;rw[e];dsimp only;rw[show layNew (aBh l (zs1 x false)) (lH (zs1 x false) tk) (x:Int) (.int x t)=_ from bBa hx];dsimp only;refine Aa (Ac ?_);rw[if_pos (show(aBh l [x]).plain=true from rfl)];refine Aa ?_;rw[hashByValue_scannable 8 (show(Ec x t).scannable=true from rfl)];refine Ac ?_;rw[if_pos (show plainKind (Ec x t)=true from rfl)];refine Aa (Vd ho hd ?_ (by rw[Dy];show(1:Nat)<=_;decide));rw[show(!false && (aBh l [x]).tooFull)=false from rfl]
  ac_rfl
  refine Ac (Ac ?_);have hg:=Bj (Lb (lH [x] λ_=>t) (aBh l [x])) ho (by rw[Pp _ _ hd];rfl);rw[Pp _ _ hd]at hg;exact h true _ (Cb s'.heap a (Lb _ _)) #[_,_,λ_=>t,hg,hex,rfl]
def oK{I:Addr}{n:Nat}{St:Nat->Shared->Prop}
  (W:WalksS prog w A.in1 I fp wr G n P St) (S:Addr) (hSf:S∉fp) (l:Bool)
  (hval:∀i v,P i v->∃t,v=.int x t) (h3:x∈[1,2,3]):
  ∀(k i:Nat)(s:Shared),n-i=k->i<=n->St i s->aIj s S l x (decide (0<i))->
   (∀s',Moved (S::wr) G s s'->aIj s' S l x (decide (0<n))->R (.ok (.ret .none)) s')->
   codeAny #v[70] A #v[86] R s:=by
 have hSw:S∉wr:=λh=>hSf (W.sub _ h);have hsub:∀b∈wr,b∈S::wr:=λb hb=>Af _ hb;intro k;induction k with
 |zero=>
  intro i s hk hi hst hS hR;have hin:i=n:=by lia
  subst hin;refine Da Eo ?_;rw[Bt Cf _];show wpAny _ A.in1 (pyNext (.ref I)>>=_) _ _ s;refine Aa (W.done s _ _ hst λs' hm=>?_);show wpAny _ A.in1 (ret Bn) _ _ s';exact Ac (hR s' (hm.mono hsub) (by
   obtain⟨o,ep,tk,ho,rest⟩:=hS;exact#[o,ep,tk,hm.heap S _ hSw ho,rest]))
 |succ k ih=>
  intro i s hk hi hst hS hR;have hlt:i<n:=by lia
  refine Da Eo ?_;rw[Bt Cf _];show wpAny _ A.in1 (pyNext (.ref I)>>=_) _ _ s;refine Aa (W.item i s _ _ hlt hst λv s' hP hst' hm=>?_);obtain⟨t,rfl⟩:=hval i v hP;have hS':aIj {s' with toks:=s'.toks+1} S l x (decide (0<i)):=by
   obtain⟨o,ep,tk,ho,rest⟩:=hS;exact#[o,ep,tk,hm.heap S _ hSw ho,rest]
  show wpAny _ A.in1 (holding [Ec x t] (setAdd S (.int x t))>>=_) _ _ s';refine Aa (Bq ?_);unfold setAdd;refine Bq ?_;refine Aa (#v[37].pyHash (k:=(x:Int)) (Qu _ _ _ _) ?_);rw[aPa h3];refine aBi (s:={s' with toks:=s'.toks+1}) h3 hS' λb h' hsb hS2=>?_;refine Ac #[Ee Cf _,ih (i+1) _ ∅ hlt (W.frame _ s' _ _ hst' (Gd _) λb hb o e=>?_) (by rw[decide_eq_true (Qn i)];exact hS2) λs'' hm'' hS''=>?_]
  ·rw[hsb.2 b (λh:b=S=>hSf (by rw[<-h];exact hb))];exact e
  ·refine hR s'' (Nh W.gtrans ((hm.mono hsub).then_heap (Gd _) λb o hb e=>?_) hm'') hS'';rw[hsb.2 b (λh:b=S=>hb (by rw[h];exact Ah))];exact e
def aA5(hh:#v[O])(hl:s.heap.IsList l items)(hi:∀(i:Nat)(v:Value),items[i]? =some v->∃t,v=.int x t)(h3:x∈[1,2,3])
  (h:∀(h':Heap)(tk:Nat),aIj {s with heap:=h',toks:=tk} #v[0] (!w.params.followText "set-order") x (decide (0<items.size))->(∀b o,b<#v[0]->s.heap.get? b=some o->h'.get? b=some o)->Q #v[32] {s with heap:=h',toks:=tk}):
  #v[2] (call (.type "set") [.ref l]) Q E s:=
 vV (λs'=>aIj s' #v[0] (!w.params.followText "set-order") x (decide (0<items.size))) hh hl
  (λs1 W hSf hA hnt st kp hS hR=>oK W #v[0] hSf _ hi h3 (items.size-0) 0 s1 ∅ (Bg _) st #[_,0,λ_=>0,hS,#[rfl,rfl,rfl],rfl] λs' hm S=>hR s' hm S)
  λh' tk S kp=>h h' tk S kp
def uJ(h:Heap)(d:Addr)(es:Array DictEntry)(ep:Nat):Prop:=∃o,h.get? d=some o/\o.ExactDict/\o.data=.dict es ep
def uJ.at_(x:uJ h d es ep)(e:∀o,h.get? d=some o->h'.get? d=some o):uJ h' d es ep:=let⟨o,ho,r⟩:=x;#[o,e _ ho,r]
def uJ.lt(x:uJ h d es ep):d<h.objs.size:=let⟨_,ho,_⟩:=x;Ar ho
variable {d it:Addr}{es:Array DictEntry}{ep i:Nat}
def uJ.ty(x:uJ s.heap d es ep):s.TypeIs (.ref d) "dict":=let⟨o,ho,c,_⟩:=x;#[o,ho,c.1]
def aP6(lo:(d==sysModules)=false)(x:uJ s.heap d es ep)
  (q:Q #v[32] {s with heap:=s.heap.push {cls:=.type "dict_keyiterator",data:=.fields (List.toArray [.ref d,.int 0 0,.int es.size 0,.int ep 0])}}):#v[2] (pyIter (.ref d)) Q E s:=by
 obtain⟨o,ho,c,dd⟩:=id x;refine Iq x.ty Uu (Bl Uu x.ty F.entry_dict_iter ?_ (F.args_dict_iter_1 _));unfold Builtin.«dict.__iter__» Mb;refine Aa (Aa (Hl x.ty (Ac ?_)));show wpAny _ _ (Hv d>>=_) _ _ s;unfold Hv;rw[if_neg (by rw[lo];exact An)];refine Aa (Ac (Aa (Ds ho dd (Aa (Hm ho dd ?_)))));refine Aa (Bp (Ac #[_,rfl,"dict_keyiterator",_,#[_,Ap _ rfl,rfl],F.slot_dict_keyiterator_next.lookup,?_]));simpa[rawInt]using q
def aN5{Q:#v[56]}(y:s.heap.IsKeyIter it d i es.size ep)(x:uJ s.heap d es ep)(hi:i<es.size)
  (q:∀g,g.IsKeyIter it d (i+1) es.size ep->Dv it s.heap g->Q (some es[i].key) {s with heap:=g}):#v[2] (pyNext (.ref it)) Q E s:=by
 obtain⟨o,ho,hc,hd⟩:=id y
 obtain⟨od,h1,_,h2⟩:=x
 have own:Em "dict_keyiterator"=false:=by decide
 unfold pyNext
 refine Aa (Gj (Cc (name:=Do "__next__") y.typeIs Gs (Bl Gs y.typeIs Oh ?_ (Nu _))))
 refine Aa (Ac (Aa (Aa ?_)))
 first|refine Aa (Gn y.typeIs (Ac ?_))|refine Aa (Ic y.typeIs (Ac ?_))
 refine Aa (Ke ho hd ?_)
 simp only[own,Cm,if_false]
 show wpAny _ _ (if(Ao d==Bn)=true then _ else _) _ _ s
 rw[if_neg (show¬((Ao d==Bn)=true)from An)]
 refine Aa (Ac (Aa (Ds h1 h2 ?_)))
 rw[if_neg (by simp)]
 refine Aa (Ac (Aa (Hm h1 h2 ?_)))
 rw[if_neg (by simp)]
 refine Ac ?_
 simp only[show¬((i:Int)<0)from by lia,if_false,Bw,Bm hi]
 refine Aa ?_
 first|refine Aa (Gn y.typeIs (Ac ?_))|refine Aa (Ic y.typeIs (Ac ?_))
 refine Aa (Sf y.typeIs ?_)
 show wpAny _ _ (setField (.ref it) 1 (rawInt ((i:Int)+1))>>=_) _ _ s
 refine Aa (Fz ho hd (by simp) ?_)
 have y':(s.heap.update it #v[T]).IsKeyIter it d (i+1) es.size ep:=
  #[_,Bj _ ho (Gv (Dw hd _)),(Ih ..).trans hc,by rw[Dw hd];simp[rawInt]]
 refine Aa (Bq (Aa (Sf (s:={s with heap:=s.heap.update it #v[T]}) y'.typeIs ?_)))
 show wpAny _ _ (pure es[i].key) _ _ _
 exact Ac (Ac #[_,rfl,Ac (q _ y' (Cb ..))])
def aR2{Q:#v[56]}(hh:#v[O])(y:s.heap.IsKeyIter it d es.size es.size ep)(x:uJ s.heap d es ep)(q:∀g,Nt it s.heap g->Q none {s with heap:=g}):#v[2] (pyNext (.ref it)) Q E s:=by
 obtain⟨o,ho,hc,hd⟩:=id y
 obtain⟨od,h1,_,h2⟩:=x
 have own:Em "dict_keyiterator"=false:=by decide
 unfold pyNext
 refine Aa (Gj (Cc (name:=Do "__next__") y.typeIs Gs (Bl Gs y.typeIs Oh ?_ (Nu _))))
 refine Aa (Ac (Aa (Aa ?_)))
 first|refine Aa (Gn y.typeIs (Ac ?_))|refine Aa (Ic y.typeIs (Ac ?_))
 refine Aa (Ke ho hd ?_)
 simp only[own,Cm,if_false]
 show wpAny _ _ (if(Ao d==Bn)=true then _ else _) _ _ s
 rw[if_neg (show¬((Ao d==Bn)=true)from An)]
 refine Aa (Ac (Aa (Ds h1 h2 ?_)))
 rw[if_neg (by simp)]
 refine Aa (Ac (Aa (Hm h1 h2 ?_)))
 rw[if_neg (by simp)]
 refine Ac ?_
 simp only[show¬((es.size:Int)<0)from by lia,if_false,Bw,Kl (Aj _)]
 refine Aa ?_
 first|refine Aa (Gn y.typeIs (Ac ?_))|refine Aa (Ic y.typeIs (Ac ?_))
 show wpAny _ _ (setField (.ref it) 0 .none>>=_) _ _ s
 refine Aa (Fz ho hd (by simp) ?_)
 show wpAny _ _ (newExc (.type "StopIteration") []>>=_) _ _ _
 simp only[newExc,newTuple]
 refine Aa (Aa (Bp ?_ (by size_fits)))
 refine Aa (m:=firstArgMember _ _) (Kv (a:=Bn) (by first|rfl|(simp only[firstArgMember];rfl)) ?_)
 refine Bp ?_ (by size_fits)
 simp only[raiseNew]
 refine Aa (My ?_)
 rw[show A.in1.handled=none from hh]
 refine Aa (Ac (Pn ?_))
 refine Aa (Ed (T:="StopIteration") (b:=true) #[_,Ap _ rfl,rfl] Kf ?_)
 exact Ac (q _ (((Cb ..).extBut.push _).push _))
def aK0(hh:#v[O])(I d:Addr)(ne:d≠I)(es:Array DictEntry)(ep:Nat):Walks prog w A I [I,d] [I] es.size (λi v=>∃e,es[i]? =some e/\v=e.key) (λi h=>h.IsKeyIter I d i es.size ep/\uJ h d es ep) where
 sub:=λb hb=>by simp at hb;simp[hb]
 frame:=λ_ _ _ st hk=>#[st.1.at λo e=>hk I (by simp) o e,st.2.at_ λo e=>hk d (by simp) o e]
 item:=λi s Q E hi st hQ=>aN5 st.1 st.2 hi λg y' sb=>hQ _ g s.toks #[_,Bm hi,rfl] #[y',st.2.at_ λo e=>sb.extBut d o ne e] λb o hb e=>sb.extBut b o (λh=>hb (by simp[h])) e
 done:=λs Q E st hQ=>aR2 hh st.1 st.2 λg he=>hQ g s.toks λb o hb e=>he b o (λh=>hb (by simp[h])) e
 self:=λ_ _ _ _ st hQ=>wpAny_pyIter_keyiter st.1 hQ
def aSc(lo:(d==sysModules)=false):PySem.W.KdlSrc prog w "dict" d d es.size (λi v=>∃e,es[i]? =some e/\v=e.key) (λh=>uJ h d es ep) where
 type:=λ_ hm=>hm.ty
 there:=λ_ hm=>#[hm.lt,hm.lt]
 keep:=λ_ _ hm hk=>hm.at_ λo e=>hk d (.inl rfl) o e
 notList:=by decide
 notTuple:=by decide
 hint:=λ_ _ _ _ hm hq=>PySem.W.kdl_hint_dict hm.ty hq
 iter:=λ_ _ hh hm=>#[_,_,(λ_ _ hq=>aP6 lo hm hq),aK0 hh _ d (Aw hm.lt) es ep,#[#[_,Ap _ rfl,rfl,rfl],hm.at_ λ_ e=>Ae _ e]]
variable {d it r:Addr}
def aLi(hv:s.heap.IsValuesView r d)(x:uJ s.heap d es ep)
  (q:Q #v[32] {s with heap:=s.heap.push {cls:=.type "dict_valueiterator",data:=.fields (List.toArray [.ref d,.int 0 0,.int es.size 0,.int ep 0])}}):#v[2] (pyIter (.ref r)) Q E s:=by
 obtain⟨o,ho,c,dd⟩:=id x;obtain⟨ov,h1,h2,h3⟩:=id hv;refine Iq hv.typeIs Qs (Bl Qs hv.typeIs F.entry_dict_values_iter ?_ (F.args_dict_values_iter_1 _));unfold Builtin.«dict_values.__iter__»;refine Aa (Ac (Aa ?_));unfold Sd;refine Aa (De h1 h3 (x:=.ref d) rfl (Ac (Aa ?_)));unfold Sb;refine Aa (Ds ho dd (Aa (Hm ho dd ?_)));simp only[show Em "dict_valueiterator"=false by decide,Cm,if_false];refine Bp (Ac #[_,rfl,"dict_valueiterator",_,#[_,Ap _ rfl,rfl],F.slot_dict_valueiterator_next.lookup,?_]);simpa[rawInt]using q
def aK4{Q:#v[56]}(y:s.heap.IsValIter it d i es.size ep)(x:uJ s.heap d es ep)(hi:i<es.size)
  (q:∀g,g.IsValIter it d (i+1) es.size ep->Dv it s.heap g->Q (some es[i].val) {s with heap:=g}):#v[2] (pyNext (.ref it)) Q E s:=by
 obtain⟨o,ho,hc,hd⟩:=id y
 obtain⟨od,h1,_,h2⟩:=x
 have own:Em "dict_valueiterator"=false:=by decide
 unfold pyNext
 refine Aa (Gj (Cc (name:=Do "__next__") y.typeIs Gf (Bl Gf y.typeIs Ni ?_ (Mx _))))
 refine Aa (Ac (Aa (Aa ?_)))
 first|refine Aa (Gm y.typeIs (Ac ?_))|refine Aa (Ib y.typeIs (Ac ?_))
 refine Aa (Ke ho hd ?_)
 simp only[own,Cm,if_false]
 show wpAny _ _ (if(Ao d==Bn)=true then _ else _) _ _ s
 rw[if_neg (show¬((Ao d==Bn)=true)from An)]
 refine Aa (Ac (Aa (Ds h1 h2 ?_)))
 rw[if_neg (by simp)]
 refine Aa (Ac (Aa (Hm h1 h2 ?_)))
 rw[if_neg (by simp)]
 refine Ac ?_
 simp only[show¬((i:Int)<0)from by lia,if_false,Bw,Bm hi]
 refine Aa ?_
 first|refine Aa (Gm y.typeIs (Ac ?_))|refine Aa (Ib y.typeIs (Ac ?_))
 refine Aa (Lm y.typeIs ?_)
 show wpAny _ _ (setField (.ref it) 1 (rawInt ((i:Int)+1))>>=_) _ _ s
 refine Aa (Fz ho hd (by simp) ?_)
 have y':(s.heap.update it #v[T]).IsValIter it d (i+1) es.size ep:=
  #[_,Bj _ ho (Gv (Dw hd _)),(Ih ..).trans hc,by rw[Dw hd];simp[rawInt]]
 refine Aa (Bq (Aa (Lm (s:={s with heap:=s.heap.update it #v[T]}) y'.typeIs ?_)))
 rw[if_neg #v[5]]
 refine Aa (Lm (s:={s with heap:=s.heap.update it #v[T]}) y'.typeIs ?_)
 show wpAny _ _ (pure es[i].val) _ _ _
 exact Ac (Ac #[_,rfl,Ac (q _ y' (Cb ..))])
def aMk{Q:#v[56]}(hh:#v[O])(y:s.heap.IsValIter it d es.size es.size ep)(x:uJ s.heap d es ep)(q:∀g,Nt it s.heap g->Q none {s with heap:=g}):#v[2] (pyNext (.ref it)) Q E s:=by
 obtain⟨o,ho,hc,hd⟩:=id y
 obtain⟨od,h1,_,h2⟩:=x
 have own:Em "dict_valueiterator"=false:=by decide
 unfold pyNext
 refine Aa (Gj (Cc (name:=Do "__next__") y.typeIs Gf (Bl Gf y.typeIs Ni ?_ (Mx _))))
 refine Aa (Ac (Aa (Aa ?_)))
 first|refine Aa (Gm y.typeIs (Ac ?_))|refine Aa (Ib y.typeIs (Ac ?_))
 refine Aa (Ke ho hd ?_)
 simp only[own,Cm,if_false]
 show wpAny _ _ (if(Ao d==Bn)=true then _ else _) _ _ s
 rw[if_neg (show¬((Ao d==Bn)=true)from An)]
 refine Aa (Ac (Aa (Ds h1 h2 ?_)))
 rw[if_neg (by simp)]
 refine Aa (Ac (Aa (Hm h1 h2 ?_)))
 rw[if_neg (by simp)]
 refine Ac ?_
 simp only[show¬((es.size:Int)<0)from by lia,if_false,Bw,Kl (Aj _)]
 refine Aa ?_
 first|refine Aa (Gm y.typeIs (Ac ?_))|refine Aa (Ib y.typeIs (Ac ?_))
 show wpAny _ _ (setField (.ref it) 0 .none>>=_) _ _ s
 refine Aa (Fz ho hd (by simp) ?_)
 show wpAny _ _ (newExc (.type "StopIteration") []>>=_) _ _ _
 simp only[newExc,newTuple]
 refine Aa (Aa (Bp ?_ (by size_fits)))
 refine Aa (m:=firstArgMember _ _) (Kv (a:=Bn) (by first|rfl|(simp only[firstArgMember];rfl)) ?_)
 refine Bp ?_ (by size_fits)
 simp only[raiseNew]
 refine Aa (My ?_)
 rw[show A.in1.handled=none from hh]
 refine Aa (Ac (Pn ?_))
 refine Aa (Ed (T:="StopIteration") (b:=true) #[_,Ap _ rfl,rfl] Kf ?_)
 exact Ac (q _ (((Cb ..).extBut.push _).push _))
def uK{prog:Program}{w:World}{A:Around}{E:#v[7]}{s:Shared}{a:Addr}{xs:Array Value}{Q:#v[56]}
  (hx:s.heap.get? a=some o) (hc:o.cls=.type "list") (hdat:o.data=.seq xs k) (hd:o.dict=none) (hmiss:typeLookup (.type "list") name=pure none) (hname:(["__module__","__name__","__qualname__","__doc__","__annotations__"]:List Str).contains name=false) (hA:#v[O])
  (h:∀h' tk e,Heap.NewExcOf s.heap h' e "AttributeError"->Q none {s with heap:=h',toks:=tk}) (hsz:name.length+100<=sizeLine:=by size_fits):
  #v[2] (getAttr? (.ref a) name) Q E s:=by
 obtain⟨c,dct,dat,sl⟩:=o;simp only at hc hdat hd;subst hc hdat hd;obtain⟨hp,g,d,tk,os⟩:=s;have hT:∀tk',(#[hp,g,d,tk',os]:Shared).TypeIs (.ref a) "list":=λ_=>#[_,hx,rfl];have f1:=sub_AttributeError;have f3:=F.slot_list_getattribute.lookup;have f4:=F.slot_list_getattribute.bind (.ref a);have f5:=am_list_getattr_none;unfold getAttr? getAttrBy? getAttrBy
 repeat (any_goals (first|assumption|exact hT _|((with_reducible show wpAny _ _ (call (Tw "list.__getattribute__") _ _) _ _ _);refine Lv F.slot_list_getattribute (hT _) am_entry_list_getattribute (F.args_list_getattribute_2 _ _) (meets_getattribute_miss_list a xs k sl name _ hmiss hname hsz) #[hx,hA,λh' tk' e hx'=>?_])|wp_step))
 obtain⟨t',u',he⟩:=hx'.there;show wpAny _ _ (getattributeRaised _ _ _ _ _ _ _) _ _ _;unfold getattributeRaised
 repeat (any_goals (first|assumption|wp_step))
 exact h _ _ _ hx'.of
namespace F
def jG:entryFor table "dict.update.loop"=some Builtin.«dict.update.loop»:=Wb (by kernel_rfl)
def dF:plainId "dict.update.loop"=true:=by decide+kernel
def aAi:typeLookup (.type "list") "keys"=pure none:=by rw[Jq,Hn];kernel_rfl
end F
section
variable {prog:Program}{w:World}{K:Type} [DecidableEq K]{knd:#v[59]}
def aFt(xs:#v[X])(k:K)(a:Addr)(v:Value):(storedH xs k a v).length<=xs.length+1:=by
 unfold storedH;split
 ·rw[Ab];lia
 ·rw[Al];exact Aj _
def aGi{xs:#v[X]}{k:K}{a:Addr}{v:Value}{x:K×Addr×Value}(h:x∈storedH xs k a v):(∃y∈xs,x.1=y.1/\x.2.1=y.2.1)∨(x.1=k/\x.2.1=a):=by
 unfold storedH at h;split at h
 ·obtain⟨y,hy,rfl⟩:=List.mem_map.mp h;refine .inl #[y,hy,?_];unfold putAt;split<;>exact#[rfl,rfl]
 ·rcases List.mem_append.mp h with h|h
  ·exact .inl #[x,h,rfl,rfl]
  ·simp only[Du]at h;subst h;exact .inr #[rfl,rfl]
def pD(L:#v[X]):List (K×Addr×Value):=L.foldl (λxs x=>storedH xs x.1 x.2.1 x.2.2) []
def qT(L:#v[X])(x:K×Addr×Value):pD (L++[x])=storedH (pD L) x.1 x.2.1 x.2.2:=by unfold pD;rw[Rx];rfl
theorem aB6:∀(n:Nat)(L:#v[X]),L.length=n->(pD L).length<=n
 |0,L,h=>by rw[List.length_eq_zero_iff.mp h];exact Aj _
 |n+1,L,h=>by
  obtain⟨M,x,rfl⟩:∃M x,L=M++[x]:=#[L.dropLast,L.getLast (by intro z;rw[z]at h;cases h),(Iw _).symm];rw[Al,Dg]at h;rw[qT];have:=aB6 n M ∅;have:=aFt (pD M) x.1 x.2.1 x.2.2
  lia
theorem aEr{h:Heap}:∀(n:Nat)(L:#v[X]),L.length=n->(∀x∈L,knd.is h x.1 x.2.1)->∀x∈pD L,knd.is h x.1 x.2.1
 |0,L,e,_,x,hx=>by rw[List.length_eq_zero_iff.mp e]at hx;exact nomatch hx
 |n+1,L,e,hL,x,hx=>by
  obtain⟨M,y,rfl⟩:∃M x,L=M++[x]:=#[L.dropLast,L.getLast (by intro z;rw[z]at e;cases e),(Iw _).symm];rw[Al,Dg]at e;rw[qT]at hx;rcases aGi hx with ⟨z,hz,e1,e2⟩|⟨e1,e2⟩
  ·rw[e1,e2];exact aEr n M ∅ (λu hu=>hL u (Bf _ hu)) z hz
  ·rw[e1,e2];exact hL y (Ax _ (List.mem_singleton.mpr rfl))
def Heap.DObj(h:Heap)(knd:#v[59])(d:Addr)(xs:#v[X]):Prop:=∃o es ep,h.get? d=some o/\o.ExactDict/\o.data=.dict es ep/\es.toList=xs.map (entryOfKey knd)/\(xs.map (·.1)).Nodup
def Heap.TwoAt(h:Heap)(p:Addr)(x y:Value):Prop:=∃o n,h.get? p=some o/\o.cls=.type "tuple"/\o.data=.seq (List.toArray [x,y]) n
variable {A:Around}{R:Result->Shared->Prop}{I:Addr}{fp wr:List Addr}{G:Array GenState->Array GenState->Prop}{n:Nat}{P:Nat->Value->Prop}{St:Nat->Shared->Prop}
def nO(W:WalksS prog w A.in1 I fp wr G n P St)(d:Addr)(hSf:d∉fp)(hd₀:h₀.get? d=none)(hw₀:∀b∈wr,h₀.get? b=none)(hro:knd.room A.in1)
  (mono:∀h' x a,knd.is h₀ x a->(∀b o,h₀.get? b=some o->h'.get? b=some o)->knd.is h' x a)
  (L:#v[X]) (hL:L.length=n) (hn:n<=sizeLine) (hk:∀x∈L,knd.is h₀ x.1 x.2.1) (hv:∀i v,P i v->∃x p,L[i]? =some x/\v=.ref p/\h₀.TwoAt p (.ref x.2.1) x.2.2):
  ∀(k i:Nat)(s:Shared)(ti:Tok),n-i=k->i<=n->St i s->(∀b o,h₀.get? b=some o->s.heap.get? b=some o)->s.heap.DObj knd d (pD (L.take i))->
   (∀s',Moved (d::wr) G s s'->s'.heap.DObj knd d (pD L)->R (.ok (.ret .none)) s')->
   codeAny #v[70] A (.builtin "dict.update.loop" #[[.ref d,.ref I,.int (i:Int) ti,.none],[]]) R s:=by
 have hdw:d∉wr:=λh=>hSf (W.sub _ h);have hsub:∀b∈wr,b∈d::wr:=λb hb=>Af _ hb;intro k;induction k with
 |zero=>
  intro i s ti hki hi hst hold hS hR;have hin:i=n:=by lia
  subst hin;refine Da F.jG ?_;rw[Bt F.dF _];show wpAny _ A.in1 (pyNext (.ref I)>>=_) _ _ s;refine Aa (W.done s _ _ hst λs' hm=>?_);show wpAny _ A.in1 (Xa d []>>=λ_=>ret Bn) _ _ s';refine Aa (Ac (Ac (hR s' (hm.mono hsub) ?_)));obtain⟨o,es,ep,ho,rest⟩:=hS;rw[El (Qp hL)]at rest;exact#[o,es,ep,hm.heap d _ hdw ho,rest]
 |succ k ih=>
  intro i s ti hki hi hst hold hS hR;have hlt:i<n:=by lia
  refine Da F.jG ?_;rw[Bt F.dF _];show wpAny _ A.in1 (pyNext (.ref I)>>=_) _ _ s;refine Aa (W.item i s _ _ hlt hst λv s' hP hst' hm=>?_);obtain⟨x,p,hx,rfl,ot,m,hot,hct,hdt⟩:=hv i v hP;have hold':∀b o,h₀.get? b=some o->s'.heap.get? b=some o:=λb o e=>hm.heap b o (λz=>by rw[hw₀ b z]at e;cases e) (hold b o e);have hot':=hold' _ _ hot;have hT:s'.TypeIs (.ref p) "tuple":=#[ot,hot',hct];have mx:x∈L:=Ai hx;show wpAny _ A.in1 (holding [Ao p] _>>=_) _ _ s';refine Aa (Bq ?_);refine Aa (Mi ?_);unfold Ww;refine Aa (Hj hT ?_);rw[if_pos ⋯];refine Aa (Cp hot' hdt (Ac ?_));show wpAny _ A.in1 (holding [Ao x.2.1,x.2.2] (dictSet d (.ref x.2.1) x.2.2)) _ _ s';refine Bq ?_;have hi':(L.take i).length=i:=by rw[Eu];lia
  have hS':s'.heap.DictOfH knd d (pD (L.take i)):=by
   obtain⟨o,es,ep,ho,h1,h2,h3,h4⟩:=hS;refine#[o,es,ep,hm.heap d _ hdw ho,h1,h2,h3,λy hy=>mono _ _ _ ?_ hold',h4];exact aEr i (L.take i) hi' (λu hu=>hk u (Hh hu)) y hy
  have ls:=aB6 i (L.take i) hi';refine wpAny_dictSet_heap (hsz:=by lia) hro (mono _ _ _ (hk x mx) hold') hS' λh' hd' hsb=>?_;have et:pD (L.take (i+1))=storedH (pD (L.take i)) x.1 x.2.1 x.2.2:=by
   rw[Lg,hx];exact qT _ _
  have nd:∀b o,h₀.get? b=some o->b≠d:=λb o e z=>by rw[z,hd₀]at e;cases e
  refine Ac #[Ee F.dF _,ih (i+1) _ _ ∅ hlt (W.frame _ s' _ _ hst' (Co _ _) λb hb o e=>?_) (λb o e=>(hsb.2 b (nd b o e)).trans (hold' b o e)) ?_ λs'' hm'' hS''=>?_]
  ·rw[hsb.2 b (λh:b=d=>hSf (by rw[<-h];exact hb))];exact e
  ·rw[et];obtain⟨o,es,ep,h1,h2,h3,h4,_,h5⟩:=hd';exact#[o,es,ep,h1,h2,h3,h4,h5]
  ·refine hR s'' (Nh W.gtrans ((hm.mono hsub).then_heap (Co _ _) λb o hb e=>?_) hm'') hS'';rw[hsb.2 b (λh:b=d=>hb (by rw[h];exact Ah))];exact e
end
section
variable {prog:Program}{w:World}{K:Type} [DecidableEq K]{knd:#v[59]}{A:Around}{E:#v[7]}{s:Shared}
def yG(hh:#v[O])(hl:s.heap.get? l=some {cls:=.type "list",data:=.seq items k})(hro:knd.room A.in1.in1)
  (mono:∀h' x a,knd.is s.heap x a->(∀b o,s.heap.get? b=some o->h'.get? b=some o)->knd.is h' x a)
  (L:#v[X]) (hL:L.length=items.size) (hn:items.size<=sizeLine) (hk:∀x∈L,knd.is s.heap x.1 x.2.1) (hv:∀(i:Nat)(v:Value),items[i]? =some v->∃x p,L[i]? =some x/\v=.ref p/\s.heap.TwoAt p (.ref x.2.1) x.2.2)
  (h:∀h' tk,h'.DObj knd #v[0] (pD L)->(∀b o,s.heap.get? b=some o->h'.get? b=some o)->Q #v[32] {s with heap:=h',toks:=tk}):
  #v[2] (call (.type "dict") [.ref l]) Q E s:=by
 refine Qi (Q₁:=λobj s₁=>obj=.ref #v[0]/\s₁={s with heap:=s.heap.push #v[9]}) Uv (Sa _) Ue (Wa _ #[rfl,rfl]) ?_;rintro obj s₁ ⟨rfl,rfl⟩;have hnew:(s.heap.push #v[9]).DictOfH knd #v[0] []:=Pe s.heap;have hl':(s.heap.push #v[9]).get? l=some {cls:=.type "list",data:=.seq items k}:=Ae _ hl;have hT:Jt {s with heap:=s.heap.push #v[9]} (.ref l) "list":=#[_,hl',rfl];refine#[hnew.typeIs,Tp _ _,?_];unfold Builtin.«dict.__init__»;refine Aa ?_;unfold Mh;refine Aa (Hl hnew.typeIs ?_);show wpAny _ _ (pure (#v[0],[Ao l])) _ _ _;refine Ac ?_;show wpAny _ _ (Hi "dict.__init__" #v[0] (.ref l) [] .none) _ _ _;unfold Hi;refine Aa (Hj hT ?_);rw[if_pos ⋯];refine Aa (uK hl' rfl rfl rfl F.aAi ⋯ hh λh1 tk e hx=>?_);have k1:∀b o,(s.heap.push #v[9]).get? b=some o->h1.get? b=some o:=hx.keeps;simp only[Option.isNone_none,if_true];refine Aa (Hr ?_);have hl1:h1.IsList l items:=#[_,k1 _ _ hl',rfl,k,rfl];refine Aa (Ir hl1 ?_);have hld:l<#v[0]:=Ar hl;have hd1:h1.get? #v[0]=some #v[9]:=k1 _ _ (Ap _ rfl);have hds:#v[0]<h1.objs.size:=Ar hd1;have hls:l<h1.objs.size:=Kz hld hds;refine Aa (Ac (Ac #[Ee F.dF _,?_]));have hh3:A.in1.in1.handled=none:=by simp[hh]
 have hneI:l≠h1.objs.size:=Aw hls;have hSf:#v[0]∉[h1.objs.size,l]:=by
  simp only[Cr,Bz,or_false,not_or];exact#[Aw hds,Fc hld]
 refine nO (knd:=knd) (h₀:=s.heap) ((Oj hh3 _ l hneI items).toS) #v[0] hSf (Lc (Aj _)) (λb hb=>?_) hro mono L hL hn hk hv (items.size-0) 0 _ _ rfl (Bg _)
  #[#[_,Ap _ rfl,rfl,rfl],(hl1.push _)] (λb o e=>Ae _ (k1 _ _ (Ae _ e))) ?_ λs' hm hS'=>?_
 ·rw[List.mem_singleton.mp hb];exact Lc (Fd hds)
 ·exact#[_, (List.toArray []),0,Ae _ hd1,#[rfl,rfl,rfl],rfl,rfl,Gg]
 ·obtain⟨h',g',d',tk',os'⟩:=s';have eg:g'=s.gens:=hm.gens;have ed:d'=s.drawn:=hm.drawn;have eo:os'=s.os:=hm.os;subst eg;subst ed;subst eo;refine#[rfl,h h' tk' hS' λb o e=>?_];have hb:b<#v[0]:=Ar e;exact hm.heap b o (by simp only[Cr,Bz,or_false,not_or];exact#[Aw hb,Aw (Kz hb hds)]) (Ae _ (k1 _ _ (Ae _ e)))
end
def wZ(x:Int×List Int):Int:=reduceHash (Df [hashInt x.1,reduceHash (Df (x.2.map hashInt))])
def aKa(M:Nat):List Int->Nat->Bool
 | [],_=>true
 |h::t,b=>bif Ub (Nat.land (Uo b (Mf h M).toNat) 1) 0 then aKa M t (Nat.lor b (Nat.shiftLeft 1 (Mf h M).toNat))else false
theorem yV:∀{l:List Int}{b:Nat},aKa M l b=true->l.Nodup/\∀h∈l,b.testBit (h % (M:Int)).toNat=false
 | [],_,_=>#[Gg,nofun]
 |h::t,b,e=>by
  unfold aKa at e;cases hb:Ub (Nat.land (Uo b (Mf h M).toNat) 1) 0 with
  |false=>rw[hb]at e;cases e
  |true=>
   rw[hb]at e;obtain⟨h1,h2⟩:=yV e;have tb:b.testBit (h % (M:Int)).toNat=false:=by
    have:=Nat.eq_of_beq_eq_true hb;unfold Nat.testBit;rw[Nat.and_comm,show(b>>>(h % (M:Int)).toNat) &&& 1=0 from this];rfl
   have or_:∀x∈t,b.testBit (x % (M:Int)).toNat=false/\(x % (M:Int)).toNat≠(h % (M:Int)).toNat:=λx hx=>by
    have:=h2 x hx;have e:(b |||1<<<(h % (M:Int)).toNat).testBit (x % (M:Int)).toNat=false:=this;rw[Nat.testBit_or,Bool.or_eq_false_iff,Nat.one_shiftLeft,Nat.testBit_two_pow]at e;exact#[e.1,λz=>of_decide_eq_false e.2 z.symm]
   refine#[List.nodup_cons.mpr #[λz=>(or_ h z).2 rfl,h1],λx hx=>?_];rcases List.mem_cons.mp hx with z|z
   ·rw[z];exact tb
   ·exact(or_ x z).1
def dig:List Int:=[0,1,2,3,4,5,6,7,8]
def plc:Nat->List (List Int)
 |0=>[[]]
 |n+1=>(plc n).flatMap λp=>dig.map λa=>a::p
def plP(p:List Int):Int:=p.foldl (λa x=>a*(x+1)) 1
def hsK(n:Nat):List (Int×List Int):=[1,2,3,4,5,6,7,8,9,10,11,12].flatMap λr=>((plc n).filter λp=>decide (plP p<=40)).map λp=>(r,p)
def hs1:aKa 640 ((hsK 1).map wZ) 0=true:=by decide+kernel
def hs2:aKa 21952 ((hsK 2).map wZ) 0=true:=by decide+kernel
def hsG(Ms:List Nat)(L:List Int):Bool:=Ms.zipIdx.all λx=>aKa x.1 (L.filter λh=>Ub (Mf h 8).toNat x.2) 0
def hs3:hsG [7569,6969,7875,8027,7169,6399,5115,6853] ((hsK 3).map wZ)=true:=by decide+kernel
def aW1(hl:Ms.length=8)(h:hsG Ms L=true):L.Nodup:=by
 refine List.pairwise_iff_getElem.mpr λi j hi hj ij e=>?_;have hg:(Mf L[i] 8).toNat<Ms.length:=by
  have h1:=Oe L[i] (show(8:Int)≠0 by decide);have h2:=Me L[i] (show(0:Int)<8 by decide);show(L[i] % 8).toNat<_
  lia
 have:=List.all_eq_true.mp h (Ms[(Mf L[i] 8).toNat],(Mf L[i] 8).toNat) (by
  rw[List.mem_iff_getElem];exact#[_,by rw[List.length_zipIdx];exact hg,by rw[List.getElem_zipIdx];simp])
 have sf:∀n:Nat,Ub n n=true:=Nat.beq_refl;exact List.pairwise_iff_getElem.mp (List.pairwise_filter.mp (yV this).1) i j hi hj ij (sf _) (by rw[<-e];exact sf _) e
theorem aI4:∀{n:Nat}{p:List Int},p.length=n->(∀x∈p,0<=x/\x<=8)->p∈plc n
 |0,[],_,_=>List.mem_singleton.mpr rfl
 |n+1,a::p,hl,h=>by
  refine List.mem_flatMap.mpr #[p,aI4 (Jb hl) λx hx=>h x (Af _ hx),List.mem_map.mpr #[a,?_,rfl]];obtain⟨h1,h2⟩:=h a Ah;obtain⟨k,rfl⟩:∃k:Nat,a=k:=#[a.toNat,∅];have:k<=8:=by lia
  match k,this with
  |0,_|1,_|2,_|3,_|4,_|5,_|6,_|7,_|8,_=>decide
theorem aCq{α β:Type}{f:α->β}:∀{l:List α}{x y:α},(l.map f).Nodup->x∈l->y∈l->f x=f y->x=y
 |a::l,x,y,h,hx,hy,e=>by
  rw[Ba,Jd]at h;rcases List.mem_cons.mp hx with e1|e1<;>rcases List.mem_cons.mp hy with e2|e2
  ·rw[e1,e2]
  ·exact absurd (List.mem_map.mpr #[y,e2,by rw[<-e,e1]]) h.1
  ·exact absurd (List.mem_map.mpr #[x,e1,by rw[e,e2]]) h.1
  ·exact aCq h.2 e1 e2 e
def aXb{P:Program}{w:World}{x y:Int×List Int}{n:Nat}(h1:1<=n)(h3:n<=3)(hx:1<=x.1/\x.1<=12/\x.2.length=n/\(∀a∈x.2,0<=a/\a<=8)/\plP x.2<=40)(hy:1<=y.1/\y.1<=12/\y.2.length=n/\(∀a∈y.2,0<=a/\a<=8)/\plP y.2<=40)(e:#v[27].hash x=#v[27].hash y):x=y:=by
 have e:wZ x=wZ y:=e;have has:∀z:Int×List Int,(1<=z.1/\z.1<=12/\z.2.length=n/\(∀a∈z.2,0<=a/\a<=8)/\plP z.2<=40)->z∈hsK n:=λz ⟨a,b,c,d,e⟩=>by
  refine List.mem_flatMap.mpr #[z.1,?_,List.mem_map.mpr #[z.2,List.mem_filter.mpr #[aI4 c d,decide_eq_true e],rfl]];obtain⟨k,hk⟩:∃k:Nat,z.1=k:=#[z.1.toNat,∅];rw[hk]at a b⊢;have:1<=k/\k<=12:=by lia
  match k,this with
  |1,_|2,_|3,_|4,_|5,_|6,_|7,_|8,_|9,_|10,_|11,_|12,_=>decide
 have nd:((hsK n).map wZ).Nodup:=by
  match n,h1,h3 with
  |1,_,_=>exact(yV hs1).1
  |2,_,_=>exact(yV hs2).1
  |3,_,_=>exact aW1 rfl hs3
 exact aCq nd (has x hx) (has y hy) e
end PySem
namespace L2
variable {pos:Pos}{scope:Scope}{a:Expr}{cl:#v[60]}{i:Nat}{xs ys:Array Value}{g:TG}{k:Nat}{p:Addr}{wi:TI}{Q:#v[56]}{v:V}{elt iter tg:Expr}{E:#v[7]}{N l1 l2:Nat}{ps:List Str}{vs:List V}{RR:Value->Addr->Result->Shared->Prop}{cis:List Expr}{P:Program}{tc:TT}{te:TE}{rest:List Expr}{w:World}{kvs:List (Key×V)}{fp:List Addr}{t:TE}{r:List V->Hp->VK->Prop}{y:V}{h h':Heap}{C:Addr}{icap:#v[14]}{tn:Nat->Heap->Prop}{pos':Pos}{cs:#v[60]}{S T:Addr->Prop}{f:Int->Int->V}{Cs:Addr->Prop}{body:List Stmt}{R:Bool->Prop}{oT:Obj}{ta:TA}
open PySem PySem.Spec PyProof.Rows
theorem gY{env:Env}(hk:env.scope.kind=.function):∀{names:List (Str×NameKind)}{x:Str},names.lookup x=some .free->env.kindOf x=some .cell->
  (names.map λ(n,k)=>if(k==Dm && env.scope.kind== .function && env.kindOf n==some .cell)then(n,Dx)else(n,k)).lookup x=some .cell
 | [],_,h,_=>by simp at h
 |(n,k)::r,x,h,hc=>by
  have ih:=@gY env hk r x;show Gb x ((if(k==Dm && env.scope.kind== .function && env.kindOf n==some .cell)=true then(n,Dx)else(n,k))::_)=_;cases hx:x==n with
  |true=>
   have e:x=n:=eq_of_beq hx;subst e;simp only[Bk,hx]at h;cases h;rw[if_pos (by rw[hk,hc];rfl)];simp[Bk]
  |false=>
   simp only[Bk,hx]at h;by_cases hcc:(k==Dm && env.scope.kind== .function && env.kindOf n==some .cell)=true
   ·rw[if_pos hcc];simp only[Bk,hx];exact ih h hc
   ·rw[if_neg hcc];simp only[Bk,hx];exact ih h hc
theorem mY{env:Env}:∀{names:List (Str×NameKind)}{x:Str},((names.map λ(n,k)=>if(k==Dm && env.scope.kind== .function && env.kindOf n==some .cell)then(n,Dx)else(n,k)).lookup x=some .cell∨
  (names.map λ(n,k)=>if(k==Dm && env.scope.kind== .function && env.kindOf n==some .cell)then(n,Dx)else(n,k)).lookup x=some .free)->names.lookup x=some .free∨names.lookup x=some .cell
 | [],_,h=>by simp at h
 |(n,k)::r,x,h=>by
  have ih:=@mY env r x
  replace h:Gb x ((if(k==Dm && env.scope.kind== .function && env.kindOf n==some .cell)=true then(n,Dx)else(n,k))::_)=_∨Gb x ((if(k==Dm && env.scope.kind== .function && env.kindOf n==some .cell)=true then(n,Dx)else(n,k))::_)=_:=h
  cases hx:x==n with
  |true=>
   simp only[Bk,hx];by_cases hcc:(k==Dm && env.scope.kind== .function && env.kindOf n==some .cell)=true
   ·have:k=.free:=by
     have:=(Ip _ _▸(Ip _ _▸hcc).1).1;exact eq_of_beq this
    exact .inl (by rw[this])
   ·rw[if_neg hcc]at h;simp only[Bk,hx]at h;rcases h with h|h
    ·exact .inr h
    ·exact .inl h
  |false=>
   simp only[Bk,hx];by_cases hcc:(k==Dm && env.scope.kind== .function && env.kindOf n==some .cell)=true
   ·rw[if_pos hcc]at h;simp only[Bk,hx]at h;exact ih h
   ·rw[if_neg hcc]at h;simp only[Bk,hx]at h;exact ih h
def iJ{a b c:Nat}(h1:a<b)(h2:b<=c):a≠c:=Aw (Be h1 h2)
abbrev bD(X:Cx)(Nc:List Str)(scope:Scope)(cl:#v[60])(C:Addr)(s2:Shared)(H2:Hp)(fp:List Addr):Cx:=
 {prog:=X.prog,w:=X.w,K:=X.K,mg:=X.mg,base:=X.base,A:=X.A,N:=Nc,s₀:=s2,H₀:=H2,env:=compEnvC scope cl C X.env,outer:=X.stack,stack:=X.stack,ex:=fp,fn:=λ_=>false,calm:=X.calm,pn:=[],xe:=λ_ _=>False}
abbrev cL(own:List Str)(cap:#v[14]):List Str:=own++cap.map (·.1)
def nU(no:Nat)(cap:#v[14])(σ:St):St:=Az no none++cap.map λp=>(σ[p.2]?).join
structure cZ(X:Cx)(scope:Scope)(cap:#v[14])(cl:#v[60]):Prop where
 clos:closureFor scope X.env=pure cl
 kind:scope.kind=.function
 nocell:∀y∈scope.names,y.2≠.cell
 names:∀y∈scope.names,y.2=.local->scope.names.lookup y.1=some .local
 sub:∀x c,cl.lookup x=some c->X.env.cells.lookup x=some c
 has:∀x,scope.names.lookup x=some .free->∃c,cl.lookup x=some c
 cap:∀p∈cap,X.N[p.2]? =some p.1/\scope.names.lookup p.1=some .free/\X.env.scope.names.lookup p.1=some .cell
def aYa(J:It)(D:Addr)(g:TG)(te:TE)(Q:VK)(σ:St)(H:Hp):Prop:=∃W:Nat->Nat->St->Hp->Prop,
 (∃m,W 0 m σ H)/\∀i m σc H2,W i m σc H2->
  (J.stop i H2/\Q (.ref D) H2)∨(J.go i H2/\∀x H3,J.yld i H2 x H3->g x σc H3 λσ4 H4=>te σ4 H4 λy H5=>∃ys,H5 D=some (.lst ys)/\ys.length<sizeLine/\∃m',m'<m/\W (i+1) m' σ4 (upd H5 D (.lst (ys++[y]))))
def vW(no:Nat)(cap:#v[14])(wi:TI)(g:TG)(te:TE):TE:=λσ H Q=>wi σ H λJ H1=>∀D,H1 D=none->aYa J D g te Q (nU no cap σ) (upd H1 D (.lst []))
variable {X:Cx}{pins:#v[8]}{σ:St}{s2:Shared}{H2:Hp}
def aWk(J:It)(D:Addr)(g:TG)(tc:TT)(te:TE)(Q:VK)(σ:St)(H:Hp):Prop:=∃W:Nat->Nat->St->Hp->Prop,
 (∃m,W 0 m σ H)/\∀i m σc H2,W i m σc H2->
  (J.stop i H2/\Q (.ref D) H2)∨(J.go i H2/\∀x H3,J.yld i H2 x H3->g x σc H3 λσ4 H4=>tc σ4 H4 λok H4'=>if ok=true then te σ4 H4' λy H5=>∃ys,H5 D=some (.lst ys)/\ys.length<sizeLine/\∃m',m'<m/\W (i+1) m' σ4 (upd H5 D (.lst (ys++[y])))else∃m',m'<m/\W (i+1) m' σ4 H4')
def uC(no:Nat)(cap:#v[14])(wi:TI)(g:TG)(tc:TT)(te:TE):TE:=λσ H Q=>wi σ H λJ H1=>∀D,H1 D=none->aWk J D g tc te Q (nU no cap σ) (upd H1 D (.lst []))
def aLq{no:Nat}{cap:#v[14]}{own:List Str}(hno:own.length=no){x:Str}(h1:(cL own cap)[i]? =some x)(h2:(nU no cap σ)[i]? =some (some v)):
  ∃p∈cap,p.1=x/\σ[p.2]? =some (some v):=by
 subst hno;unfold nU at h2;by_cases hi:i<own.length
 ·rw[Di (by simpa using hi),Ey]at h2;rw[if_pos hi]at h2;cases h2
 ·rw[Dq (by simpa using hi)]at h2;unfold cL at h1;rw[Dq (by simpa using hi)]at h1;rw[Dn,Ay]at h2;rw[Ay]at h1;cases e:cap[i-own.length]? with
  |none=>rw[e]at h1;cases h1
  |some p=>
   rw[e]at h1 h2;refine#[p,Ai e,Bi h1,?_];have q:(σ[p.2]?).join=some v:=Bi h2;cases e2:σ[p.2]? with
   |none=>rw[e2]at q;cases q
   |some o=>rw[e2]at q;exact congrArg some q
def aAb(scope:Scope):Prop:=∀y∈scope.names,y.2≠.cell
theorem rC:∀{names:List (Str×NameKind)}{n:Nat},(∀y∈names,y.2≠.cell)->cellsFrom n names []=[]
 | [],_,_=>rfl
 |(y,k)::r,n,h=>by
  unfold cellsFrom;rw[if_neg (λz=>h _ Ah (eq_of_beq z))];exact rC λz hz=>h z (Af _ hz)
def aAm(h:aAb scope):cellsFrom n scope.names []=[]:=rC h
structure nF(X:Cx)(scope:Scope)(cap:#v[14])(cl:#v[60]):Prop where
 clos:closureFor scope X.env=pure cl
 kind:scope.kind=.function
 names:∀y∈scope.names,y.2=.local->scope.names.lookup y.1=some .local
 sub:∀x c,cl.lookup x=some c->X.env.cells.lookup x=some c
 has:∀x,scope.names.lookup x=some .free->∃c,cl.lookup x=some c
 capn:∀p∈cap,¬(p.1,Dx)∈scope.names
 cap:∀p∈cap,X.N[p.2]? =some p.1/\scope.names.lookup p.1=some .free/\X.env.scope.names.lookup p.1=some .cell
def dI(X:Cx)(scope:Scope)(cs:#v[60]):Prop:=∀x,(scope.names.lookup x=some .cell∨(scope.names.lookup x=some .free/\X.env.scope.names.lookup x=some .cell))->∃c,cs.lookup x=some c
abbrev bV(X:Cx)(Nc:List Str)(scope:Scope)(cs:#v[60])(C:Addr)(s2:Shared)(H2:Hp)(fp:List Addr):Cx:=
 {prog:=X.prog,w:=X.w,K:=X.K,mg:=X.mg,base:=X.base,A:=X.A,N:=Nc,s₀:=s2,H₀:=H2,env:={compEnvC scope [] C X.env with cells:=cs},outer:=X.stack,stack:=X.stack,ex:=fp,fn:=λx=>decide (scope.names.lookup x=some .cell),calm:=X.calm,pn:=[],xe:=λ_ _=>False}
theorem kY:∀(names:List (Str×NameKind))(n:Nat)(acc:#v[60]),cellsFrom n names acc=cellsFrom n names []++acc
 | [],_,_=>rfl
 |(y,k)::r,n,acc=>by
  unfold cellsFrom;split
  ·rw[kY r (n+1) ((y,n)::acc),kY r (n+1) [(y,n)],Ce];rfl
  ·exact kY r n acc
theorem nH:∀(names:List (Str×NameKind))(n:Nat)(acc:#v[60]){x:Str}{c:Addr},(x,c)∈cellsFrom n names acc->(x,Dx)∈names∨(x,c)∈acc
 | [],_,_,_,_,h=> .inr h
 |(y,k)::r,n,acc,x,c,h=>by
  unfold cellsFrom at h;split at h
  ·rename_i hk;rcases nH r _ _ h with z|z
   ·exact .inl (Af _ z)
   ·rcases List.mem_cons.mp z with e|z
    ·cases e;rw[show k=.cell from eq_of_beq hk];exact .inl Ah
    ·exact .inr z
  ·rcases nH r _ _ h with z|z
   ·exact .inl (Af _ z)
   ·exact .inr z
def aBj(h:(x,c)∈cellsFrom n names []):(x,Dx)∈names:=(nH names n [] h).elim id λz=>nomatch z
variable {α:Type}{A B:List (Str×α)}{x:Str}{c:α}
def oV:(A++B).lookup x=(A.lookup x).or (B.lookup x):=List.lookup_append ..
def aIe(h:(A++B).lookup x=some c):A.lookup x=some c∨(A.lookup x=none/\B.lookup x=some c):=by
 rw[oV]at h;cases q:A.lookup x with
 |none=>rw[q]at h;exact .inr #[rfl,h]
 |some d=>rw[q]at h;exact .inl h
def mH(h:A.lookup x=some c):(A++B).lookup x=some c:=by rw[oV,h];rfl
def wB(h:A.lookup x=none)(h':B.lookup x=some c):(A++B).lookup x=some c:=by rw[oV,h];exact h'
def vK(h:B.lookup x=some c):∃d,(A++B).lookup x=some d:=by
 cases q:A.lookup x with
 |none=>exact#[c,wB q h]
 |some d=>exact#[d,mH q]
def aHb{A:Around}{Q:Env->Shared->Prop}(_hk:scope.kind=.function)
  (h:Q {scope:=scope,locals:=#v[0],globals:=globals,cells:=cellsFrom (#v[0]+1) scope.names cl,qual:=qual,func:=none,code:=env0.code,frame:=env0.frame,builtins:=env0.builtins}
   {s with heap:=pushCells (s.heap.push #v[9]) scope.names}):
  wpAny M A (newFunctionEnv scope globals cl [] qual none .none (some env0)) Q E s:=by
 simp only[newFunctionEnv,Qm,if_true];refine Aa (wpAny_alloc (Aa (wpAny_layCells _ (λnm kd cs=>by cases hq:kd==Dx<;>simp[hq]) _ _ _ _ ?_)));have e:({s with heap:=s.heap.push #v[9]}:Shared).heap.objs.size=#v[0]+1:=Ck ..;rw[e];exact Aa (Ac (Ac h))
section
variable {prog:Program}{w:World}{A:Around}{R:Result->Shared->Prop}{s:Shared}
def PTs(X:Cx)(cis:List Expr)(t:TT):Prop:=
 ∀(pins:#v[8])(s:Shared)(σ:St)(H:Hp)(Q:Bool->Hp->Prop),#v[4]->t σ H Q->#v[6] (forIn cis true λc r=>if r=true then do let ok<-isTrue c X.env (eval c X.env);pure (Hs ok)else pure (Hs r)) (TP X pins σ Q) X.xe s
def aJe{X:Cx}{c:Expr}{t:TT}(h:PT X c t):PTs X [c] t:=λpins s σ H Q I q=>wpAny_tests_one (h pins s σ H Q I q)
def aMe:TT:=λ_ H Q=>Q true H
def yW{X:Cx}:PTs X [] aMe:=λpins s σ H Q I q=>wpAny_tests_nil #[H,I,q]
def aA9{elt target iter:Expr}(I:Nat->Shared->Prop)
  (turn:∀n s,I n s->#v[2] (pyNext it) (λr s₁=>match r with
   |none=>R (.ok .next) s₁
   |some v=>#v[2] (letOwnedTupleGo target it v) (λ_ s₁'=>#v[2] (assign target env v) (λ_ s₂=>#v[2] (forIn cis true λc r=>if r=true then do let ok<-isTrue c env (eval c env);pure (Hs ok)else pure (Hs r)) (λok s₂'=>if ok=true then #v[2] (eval elt env) (λx s₃=>
     #v[2] (call (.builtin "list.append") [acc,x]) (λ_ s₄=>∃m,m<n/\I m s₄) (λ_ _=>False) s₃) (λ_ _=>False) s₂' else∃m,m<n/\I m s₂') (λ_ _=>False) s₂) (λ_ _=>False) s₁') (λ_ _=>False) s₁) (λ_ _=>False) s)
  (n:Nat) (h:I n s):
  codeAny #v[70] A (.compLoop (.ListComp elt [#[target,iter,cis,0]] scope pos) 0 it acc env) R s:=by
 refine codeAny_loop rfl I (λn s hI=>?_) n h;show wpAny _ _ ((compTurn (.ListComp elt [#[target,iter,cis,0]] scope pos) 0 it acc env).onRaise (λx=>do noteFrame x env;theTreesLotGoes x)) _ _ s;refine wpAny_noted ?_;rw[compTurn_list];refine Aa (Ku (Aa (Es (turn n s hI) (λr s₁ h₁=>?_) λ_ _ h'=>h'.elim)));cases r with
 |none=>exact Ac h₁
 |some v=>
  refine Aa (Es h₁ (λ_ s₁' h₁'=>?_) λ_ _ h'=>h'.elim);refine Aa (Es h₁' (λ_ s₂ h₂=>?_) λ_ _ h'=>h'.elim);refine Aa (Es h₂ (λokb s₃ h₃=>?_) λ_ _ h'=>h'.elim);cases okb with
  |false=>exact Ac #[rfl,h₃]
  |true=>exact Aa (Aa (Es h₃ (λx s₄ h₄=>Aa (Es h₄ (λ_ s₅ h₅=>Ac (Ac #[rfl,h₅])) λ_ _ h'=>h'.elim)) λ_ _ h'=>h'.elim))
end
def rR{own:List Str}{cap:#v[14]}{J:It}{it:Addr}{Q:VK}
    (S:nF X scope cap cl) (hc:X.calm=true) (I:Inv X pins σ H2 s2) (T:Turn X.prog X.w X.K tg J fp it tn) (st:tn 0 s2.heap) (hf:∀b∈fp,aDh X pins H2 b)
    (hg:∀cs,dI X scope cs->(aAb scope->cs=cl)->∀C s2 H2 fp,PG #v[f] tg g) (htc:∀cs,dI X scope cs->(aAb scope->cs=cl)->∀C s2 H2 fp,PTs #v[f] cis tc) (he:∀cs,dI X scope cs->(aAb scope->cs=cl)->∀C s2 H2 fp,PE #v[f] elt te)
    (W:Nat->Nat->St->Hp->Prop) (w0:∃m,W 0 m (nU own.length cap σ) (upd H2 s2.heap.objs.size (.lst [])))
    (turn:#v[e])
    (hRR:#v[s])
 :
    #v[6] (newList []) (λacc s₃=>#v[6] (newFunctionEnv scope X.env.globals cl [] X.env.qual none .none (some X.env)) (λcenv s₄=>
      codeAny #v[p] X.A (.compStart #v[15] 0 (.ref it) acc {cenv with scope:=relabel scope X.env}) (RR acc cenv.locals) s₄) E s₃) E s2:=by
  refine Bp (aHb S.kind ?_);dsimp only;generalize hH2:s2.heap.push {cls:=.type "list",dict:=none,data:=.seq ([]:List Value).toArray}=G2;have hC:G2.objs.size=s2.heap.objs.size+1:=by rw[<-hH2,Ck]
  have hDC:s2.heap.objs.size≠G2.objs.size:=by rw[hC];exact Aw (Fj _)
  have hCle:s2.heap.objs.size<=G2.objs.size:=by rw[hC];exact Gd _
  have below:∀b,b<s2.heap.objs.size->b≠G2.objs.size/\b≠s2.heap.objs.size:=λb hb=>#[by rw[hC];exact Aw (Hg hb),Aw hb];have hG1:(G2.push #v[9]).objs.size=G2.objs.size+1:=Ck ..;have okA:=cellsFrom_ok scope.names (G2.push #v[9]) (G2.objs.size+1) [] #[λ_ _ z=>(nomatch z),Oc] (by rw[hG1];exact Aj _);rw[hG1]at okA;have app:cellsFrom (G2.objs.size+1) scope.names cl=cellsFrom (G2.objs.size+1) scope.names []++cl:=kY _ _ _;have kept:∀b o,G2.get? b=some o->#v[28].get? b=some o:=λb o e=>Xc _ _ b o (Ae _ e);have hns₁:#v[28].Ns G2.objs.size (λ_=>none):=(Heap.Ns.new G2 (.type "dict")).keeps (Xc _ _);have old:∀b o,s2.heap.get? b=some o->#v[28].get? b=some o:=λb o e=>kept b o (hH2▸Ae _ e);have hacc:#v[28].get? s2.heap.objs.size=some {cls:=.type "list",dict:=none,data:=.seq ([]:List Value).toArray}:=kept _ _ (hH2▸Ap _ rfl);have newc:∀x c,#v[53].lookup x=some c->#v[28].IsCell c none/\G2.objs.size+1<=c:=λx c e=>okA.empty x c (Cq e);have newinj:∀x y c,#v[53].lookup x=some c->#v[53].lookup y=some c->x=y:=λx y c e1 e2=>name_of_addr okA.apart (Cq e1) (Cq e2);have ownc:∀x,scope.names.lookup x=some .cell->∃c,#v[53].lookup x=some c:=λx hx=>Option.isSome_iff_exists.mp (Ka scope.names _ [] (.inl hx));generalize hh₁:pushCells (G2.push #v[9]) scope.names=h₁ at hns₁ old hacc newc⊢;generalize hcA:cellsFrom (G2.objs.size+1) scope.names []=cA at app newc newinj ownc;generalize hcs:cellsFrom (G2.objs.size+1) scope.names cl=cs at app⊢;subst app;have both:∀x c,(cA++cl).lookup x=some c->(cA.lookup x=some c∨(cA.lookup x=none/\cl.lookup x=some c)):=λx c e=>aIe e;have hfps:∀b∈fp,b<s2.heap.objs.size:=λb hb=>by
    obtain⟨o,e,_⟩:=T.obj _ _ st b hb;exact Ar e
  have hfree:∀b,s2.heap.objs.size<=b->H2 b=none:=λb hb=>I.hok.fresh hb;have old2:∀x c,cl.lookup x=some c->c<s2.heap.objs.size:=λx c e=>by
    obtain⟨v,o,ho,_⟩:=I.cell x c (S.sub x c e);exact Ar ho
  have clash:∀c,G2.objs.size+1<=c->c<s2.heap.objs.size->False:=λc h1 h2=>Dp _ (Be h2 (Ci hCle (Mn h1)));have ceq:aAb scope->cA++cl=cl:=λn=>by rw[<-hcA,aAm n];rfl
  have cfor:dI X scope (cA++cl):=λx hx=>by
    rcases hx with h|⟨h,_⟩
    · obtain⟨c,e⟩:=ownc x h
      exact#[c,mH e]
    · obtain⟨c,e⟩:=S.has x h
      exact vK e
  generalize hX:bV X (cL own cap) scope (cA++cl) G2.objs.size s2 H2 fp=X';have hOk:X'.Ok:=by
    subst hX;refine⟨I.ok.mod,S.kind,I.ok.glob,I.ok.blt,hCle,λx y c e1 e2=>?_,λx hx=>?_,λx c z e=>?_,I.ok.hd,I.ok.frames,.inl rfl,
      λb hb=>#[(below b (hfps b hb)).1,λx c e=>?_],I.bs,Ci I.ok.bsz I.sz,λb o e hb=>?_,λb hb z=>?_,I.stack,I.stkFree⟩
    · rcases both x c e1 with a1|⟨_,a1⟩
      · rcases both y c e2 with a2|⟨_,a2⟩
        · exact newinj x y c a1 a2
        · exact(clash c (newc x c a1).2 (old2 y c a2)).elim
      · rcases both y c e2 with a2|⟨_,a2⟩
        · exact(clash c (newc y c a2).2 (old2 x c a1)).elim
        · exact I.ok.inj x y c (S.sub x c a1) (S.sub y c a2)
    · rcases mY (env:=X.env) (names:=scope.names) (x:=x) hx with h|h
      · obtain⟨c,e⟩:=S.has x h
        exact vK e
      · obtain⟨c,e⟩:=ownc x h
        exact#[c,mH e]
    · obtain⟨c',e'⟩:=ownc x (of_decide_eq_true z)
      have q:(cA++cl).lookup x=some c':=mH e';have q2:some c'=some c:=q.symm.trans e;cases q2;exact Ci hCle (Ci (Gd _) (newc x c e').2)
    · rcases both x c e with a1|⟨_,a1⟩
      · exactλz=>clash c (newc x c a1).2 (z.symm▸hfps b hb)
      · exact(hf b hb).2.2.2.2.1 x c (S.sub x c a1)
    · rcases (hf b hb).2.2.2.1 with z|z
      · exact I.ok.noex b o e z
      · exact absurd (Be (Ar e) (Ci I.ok.bsz z)) (Dp _)
    · rcases List.mem_cons.mp (I.stkSub b z)with z|z
      · exact(hf b hb).2.1 z
      · exact(hf b hb).2.2.1 z
  have hI0:Inv X' [] (nU own.length cap σ) (upd H2 s2.heap.objs.size (.lst [])) {s2 with heap:=h₁}:=by
    subst hX;refine#[hOk,rfl,I.bare,Un.laid old (Aj _) (hfree _ (Aj _)),#[_,hns₁,λi x v e1 e2 e3=>?_],λx c e=>?_,?_,λx c e=>?_,λp hp=>absurd (show p∈([]:#v[8])from hp) (by simp),?_,?_]
    · obtain⟨p,hp,rfl,hσ⟩:=aLq rfl e1 e2
      obtain⟨c1,c2,c3⟩:=S.cap p hp;obtain⟨m,hn,hl⟩:=I.loc;obtain⟨u,r,l⟩:=hl p.2 p.1 v c1 hσ (.inr (.inl c3));refine#[u,r,.inr #[.inl (gY I.ok.kind c2 c3),?_]];obtain⟨c,hcl⟩:=S.has _ c2;have nA:cA.lookup p.1=none:=by
        cases q:cA.lookup p.1 with
        |none=>rfl
        |some c0=>
          have z:=Cq q;rw[<-hcA]at z;exact absurd (aBj z) (S.capn p hp)
      refine#[c,wB nA hcl,?_];rcases l with ⟨k,_⟩|⟨_,c',e,z⟩
      · have k':X.env.scope.names.lookup p.1=some .local:=k
        rw[c3]at k';cases k'
      · have:=S.sub _ _ hcl
        rw[e]at this;cases this;obtain⟨o,ho,hd⟩:=z;exact#[o,old _ _ ho,hd]
    · rcases both x c e with a1|⟨_,a1⟩
      · exact#[none,(newc x c a1).1]
      · obtain⟨v,o,ho,hd⟩:=I.cell x c (S.sub x c a1)
        exact#[v,o,old _ _ ho,hd]
    · show upd H2 s2.heap.objs.size (.lst []) G2.objs.size=none
      rw[aN (Cg hDC)];exact hfree _ hCle
    · rcases both x c e with a1|⟨_,a1⟩
      · have h1:=(newc x c a1).2
        have h2:s2.heap.objs.size<=c:=Ci hCle (Mn h1);have h3:c≠s2.heap.objs.size:=λz=>by
          rw[z]at h1;exact hDC (Nat.le_antisymm hCle (Mn h1))
        rw[aN h3];exact hfree c h2
      · have e':=S.sub x c a1
        obtain⟨v,o,ho,hd⟩:=I.cell x c e';rw[aN (below c (Ar ho)).2];exact I.freeC x c e'
    · exact I.hok.laid old (Aj _) #[Bg _,[],_,.nil,hacc]
    · show(nU own.length cap σ).length=(cL own cap).length
      unfold nU cL;simp
  have hP:X'.prog=X.prog:=by subst hX;rfl
  have hw:X'.w=X.w:=by subst hX;rfl
  have hK:X'.K=X.K:=by subst hX;rfl
  have hA:X'.A=X.A:=by subst hX;rfl
  have hcalm:X'.calm=true:=by subst hX;exact hc
  have hxe:X'.xe=λ_ _=>False:=by subst hX;rfl
  have henv:X'.env={compEnvC scope cl G2.objs.size X.env with cells:=cA++cl}:=by subst hX;rfl
  have hbase:∀{σ' H' s'},Inv X' [] σ' H' s'->Un (frs X.stack) fp H2 H' s2.heap s'.heap/\s'.os=s2.os:=λ{σ' H' s'} J=>by subst hX;exact#[J.base,J.os]
  have hg':PG X' tg g:=by subst hX;exact hg _ cfor ceq _ _ _ _
  have he':PE X' elt te:=by subst hX;exact he _ cfor ceq _ _ _ _
  have htc':PTs X' cis tc:=by subst hX;exact htc _ cfor ceq _ _ _ _
  have stat:∀{H':Hp},(∀b∈fp,H' b=none)->∀b∈fp,aDh X' [] H' b:=λ{H'} hn b hb=>by
    subst hX;refine#[hn b hb,(below b (hfps b hb)).1,λz=>?_,.inl hb,λx c e=>?_,λp hp=>absurd (show p∈([]:#v[8])from hp) (by simp)];rcases List.mem_cons.mp (I.stkSub b z)with z|z
    · exact(hf b hb).2.1 z
    · exact(hf b hb).2.2.1 z
    rcases both x c e with a1|⟨_,a1⟩
    · exactλz=>clash c (newc x c a1).2 (z.symm▸hfps b hb)
    · exact(hf b hb).2.2.2.2.1 x c (S.sub x c a1)
  have back:∀{σ' H' s'},Inv X' [] σ' H' s'->Q #v[92] H'->RR #v[92] G2.objs.size (.ok .next) s':=λ{σ' H' s'} J q=>by
    obtain⟨u,ho⟩:=hbase J;have hcf:∀b∈fp,(b∈X.ex∨X.s₀.heap.objs.size<=b)/\b≠X.env.locals/\(∀x c,X.env.cells.lookup x=some c->c≠b)/\∀p∈X.pn++pins,p.1≠b:=λb hb=>by
      obtain⟨f0,f1,f2,f3,f4,f5⟩:=hf b hb;exact#[f3,f1,f4,f5]
    have hCn:H' G2.objs.size=none:=by have:=J.free;rw[henv]at this;exact this
    have hok':HOk X.prog X.w H' s'.heap:=by have:=J.hok;rw[hP,hw]at this;exact this
    obtain⟨m,hm,_⟩:=J.loc;rw[henv]at hm;refine hRR _ H' s' m hCle hm hCn (I.call' ho u hok' J.bare hcf) (λh' hs=>?_) q;have kn:∀b o,s2.heap.get? b=some o->h'.get? b=s'.heap.get? b:=λb o e=>hs.2 b (below b (Ar e)).1;refine I.call' (s':={s' with heap:=h'}) ho #[λb o e n hb hx=>(kn b o e).trans (u.keep b o e n hb hx),λb o e n hb hx=>?_,u.free,λb o e hx=>?_,u.tups,u.frzs,u.tbls] (λb ob e=>?_) J.bare hcf
    · obtain⟨sl,e1⟩:=u.slot b o e n hb hx
      exact#[sl,(kn b o e).trans e1]
    · obtain⟨o',e1⟩:=u.there b o e hx
      exact#[o',(kn b o e).trans e1]
    · refine(hok' b ob e).stay (λc w' hc q=>(hs.2 c ?_).trans q) (λ_ q=>q) λ_ _ q=>q
      rintro rfl;rcases hc with rfl|hc
      · rw[hCn]at e;cases e
      · rw[hCn]at hc;cases hc
  have loop:∀s₃:Shared,s₃={s2 with heap:=h₁}->
      codeAny #v[p] X.A (.compLoop #v[15] 0 (.ref it) #v[92] {compEnvC scope cl G2.objs.size X.env with cells:=cA++cl})
        (RR #v[92] G2.objs.size) s₃:=by
    rintro s₃ rfl;obtain⟨m0,w0⟩:=w0;refine aA9 (λn s'=>∃i σ' H',Inv X' [] σ' H' s'/\tn i s'.heap/\(∀b∈fp,H' b=none)/\W i n σ' H') ?_ m0
      #[0,_,_,hI0,T.keep _ _ _ st λb hb o e=>old b o e,λb hb=>?_,w0]
    · rintro n s3 ⟨i,σ3,H3,I3,st3,fr3,w3⟩
      rcases turn i n σ3 H3 w3 with ⟨stop,qn⟩|⟨go,step⟩
      · have d:=T.done X' hP hw hK hcalm i [] s3 σ3 H3 (λ_ _=>False) I3 (stat fr3) st3 stop
        rw[hA]at d;refine thn d λr s4 ⟨hr,I4⟩=>?_;subst hr;exact back I4 qn
      · have d:=T.item X' hP hw hK hcalm i [] s3 σ3 H3 (λ_ _=>False) I3 (stat fr3) st3 go
        rw[hA]at d;refine thn d λr s4 ⟨u,hr,h4⟩=>?_;subst hr;refine thn h4 λ_ s5 ⟨x,H5,I5,r5,y5,st5,fr5⟩=>?_;have I5':=I5.pinned (stat fr5) (T.obj _ _ st5);have d2:=hg' _ s5 σ3 H5 x u _ I5' r5 (step x H5 y5);rw[hP,hw,hA,hxe,henv]at d2;refine thn d2 λ_ s6 ⟨σ6,H6,I6,q6⟩=>?_;have dt:=htc' _ s6 σ6 H6 _ I6 q6;rw[hP,hw,hA,hxe,henv]at dt;refine thn dt λokb s6' ⟨H6',I6',q6'⟩=>?_;cases okb with
        |false=>
          obtain⟨m',hm,w7⟩:=q6';refine#[m',hm,i+1,σ6,H6',I6'.unpinned,T.keep _ _ _ st5 λb hb o e=>(I6'.pin (b,o) (Ax _ (Ax _ (jX hb e)))).1,λb hb=>?_,w7];obtain⟨o,e,d⟩:=T.obj _ _ st5 b hb;exact(I6'.pin (b,o) (Ax _ (Ax _ (jX hb e)))).2.1
        |true=>
        have d3:=he' _ s6' σ6 H6' _ I6' q6';rw[hP,hw,hA,hxe,henv]at d3;refine thn d3 λy7 s7 ⟨v7,H7,I7,r7,ys,e7,l7,m',hm,w7⟩=>?_;have d4:=xN (X:=X') _ s7 σ6 H7 #v[92] [v7] #v[92] [y7] (λ_ H8=>W (i+1) m' σ6 H8) I7 rfl (.cons r7 .nil) #[_,ys,v7,rfl,rfl,e7,l7,w7];rw[hP,hw,hA,hxe]at d4;refine thn d4 λ_ s8 ⟨v8,H8,I8,_,w8⟩=>?_;refine#[m',hm,i+1,σ6,H8,I8.unpinned,T.keep _ _ _ st5 λb hb o e=>(I8.pin (b,o) (Ax _ (Ax _ (jX hb e)))).1,λb hb=>?_,w8];obtain⟨o,e,d⟩:=T.obj _ _ st5 b hb;exact(I8.pin (b,o) (Ax _ (Ax _ (jX hb e)))).2.1
    · rw[aN (below b (hfps b hb)).2]
      exact(hf b hb).1
  exact codeAny_compStart_list (loop _ rfl) (T.self _ 0 _ _ _ (T.keep _ _ _ st λb hb o e=>old b o e) (loop _ rfl))
def cZ.noC{cap:#v[14]}(S:#v[99]):nF X scope cap cl:=#[S.clos,S.kind,S.names,S.sub,S.has,λp _ h=>S.nocell _ h rfl,S.cap]
def cZ.cx{cap:#v[14]}(S:#v[99])(Nc:List Str)(C:Addr)(s2:Shared)(H2:Hp)(fp:List Addr):bV X Nc scope cl C s2 H2 fp=bD X Nc scope cl C s2 H2 fp:=by
 have e:(λx=>decide (scope.names.lookup x=some Dx))=λ_=>false:=funext λx=>decide_eq_false λh=>S.nocell _ (Cq h) rfl;unfold bV bD;rw[e];rfl
def yE{Q:VK}
    (S:#v[99]) (hc:X.calm=true) (I:Inv X pins σ H2 s2) (T:Turn X.prog X.w X.K tg J fp it tn) (st:tn 0 s2.heap) (hf:∀b∈fp,aDh X pins H2 b)
    (hg:#v[34]) (htc:∀C s2 H2 fp,PTs #v[3] cis tc) (he:#v[24])
    (W:Nat->Nat->St->Hp->Prop) (w0:∃m,W 0 m (nU own.length cap σ) (upd H2 s2.heap.objs.size (.lst [])))
    (turn:#v[e])
    (hRR:#v[s])
 :
    #v[6] (newList []) (λacc s₃=>#v[6] (newFunctionEnv scope X.env.globals cl [] X.env.qual none .none (some X.env)) (λcenv s₄=>
      codeAny #v[p] X.A (.compStart #v[15] 0 (.ref it) acc {cenv with scope:=relabel scope X.env}) (RR acc cenv.locals) s₄) E s₃) E s2:=
  rR S.noC hc I T st hf (λcs _ e C s2 H2 fp=>by rw[e S.nocell,S.cx];exact hg C s2 H2 fp) (λcs _ e C s2 H2 fp=>by rw[e S.nocell,S.cx];exact htc C s2 H2 fp) (λcs _ e C s2 H2 fp=>by rw[e S.nocell,S.cx];exact he C s2 H2 fp) W w0 turn hRR
def aGn
  (S:#v[99]) (hc:X.calm=true) (hi:#v[62])
  (hg:#v[34]) (htc:∀C s2 H2 fp,PTs #v[3] cis tc) (he:#v[24])
  (hs:FS X iter):PE X #v[15] #v[38]:=by
 intro pins s σ H Q I h;rw[eval_ListComp];refine Ie (use:=none) rfl hs S.clos S.kind S.names (thn (hi pins s σ H _ I h) λv s1 h1=>thn h1 λitv s2 h2=>?_);obtain⟨it,fp,tn,J,H2,e,I2,T,st2,f2,rd⟩:=h2;subst e;obtain⟨W,w0,turn⟩:=rd _ (I2.hok.fresh (Aj _));exact yE (RR:=λacc C=>compPost #v[p] X.A X.xe none #v[21] acc C) S hc I2 T st2 f2 hg htc he W w0 turn
  λC H' s' m _ hm _ _ hback q=>#[m,hm,λh' hs'=>#[.ref s2.heap.objs.size,H',hback h' hs',rfl,q]]
def xU{x:Str}{pos spos py:Pos}
  (hN:X.N.Nodup) (hi':X.N[i]? =some x) (hx:#v[C]) (S:#v[99]) (hc:X.calm=true) (hi:#v[62])
  (hg:#v[34]) (htc:∀C s2 H2 fp,PTs #v[3] cis tc) (he:#v[24])
  (hsw:swapsWith #v[15] (some (.Name x py)) spos.line X.env=pure true)
  (hs:FS X iter) (hf:FL X x):
  PS X (.Assign [.Name x py] #v[15] spos) (aE2 #v[38] (pL i)):=by
 intro pins s σ H D I h;rw[Sh _ _ _ _ hsw];refine Aa (Ku (Aa ?_));show wpAny _ X.A (do let _<-comprehension #v[15] scope X.env _ (newList []) false (eval iter X.env) (some #v[65])) _ _ s;refine Aa (Es (Ie (use:=some #v[65]) (Q:=λ_ s'=>SP X pins D .next s') rfl hs S.clos S.kind S.names
  (thn (hi pins s σ H _ I h) λv s1 h1=>thn h1 λitv s2 h2=>?_)) (λ_ s' hq=>Ac (Ac hq)) λ_ _ e=>e)
 obtain⟨it,fp,tn,J,H2,e,I2,T,st2,f2,rd⟩:=h2;subst e;obtain⟨W,w0,turn⟩:=rd _ (I2.hok.fresh (Aj _));refine yE (Q:=λx H1=>pL i x σ H1 D.nx) (RR:=λacc C=>compPost #v[p] X.A X.xe (some #v[65]) (λ_ s'=>SP X pins D .next s') acc C) S hc I2 T st2 f2 hg htc he W w0 turn
  λC H' s' m hCle hm hCn I' hback q=>?_
 refine Ny (wF (v:=.ref s2.heap.objs.size) I' hN hi' hx rfl (λs'' I'' ⟨a,hsa,ha⟩=>?_) hf);have hCa:C≠a:=by
  rcases ha with z|z
  ·rw[z];exact Cg (iJ I2.lt hCle)
  ·obtain⟨v,q'⟩:=I2.cell x a z;exact Cg (iJ q'.lt hCle)
 refine#[m,hm.sameBut hsa hCa,λh' hs'=>#[_,H',?_,q]];have hC0:X.s₀.heap.objs.size<=C:=Ci I2.sz hCle;have hnp:∀p∈X.pn++pins,p.1≠C:=λp hp=>iJ (Ar (I2.pin p hp).1) hCle;have hcl:∀y c,X.env.cells.lookup y=some c->c≠C:=λy c e=>by
  obtain⟨v,q'⟩:=I2.cell y c e;exact iJ q'.lt hCle
 have hL:C≠X.env.locals:=Cg (iJ I2.lt hCle);exact I''.turned (t':=s''.toks) (it:=C) (λb o hb e=>(hs'.2 b hb).trans e) hCn hL (.inr hC0) hcl hnp
def aI0
  (S:#v[99]) (hc:X.calm=true) (hi:#v[62])
  (hg:#v[34]) (he:#v[24])
  (hs:FS X iter:=by intro _;rfl):PE X #v[10] #v[66]:=
 aGn (tc:=aMe) S hc hi hg (λ_ _ _ _=>yW) he hs
def aHn{x:Str}{pos spos py:Pos}
  (hN:X.N.Nodup) (hi':X.N[i]? =some x) (hx:#v[C]) (S:#v[99]) (hc:X.calm=true) (hi:#v[62])
  (hg:#v[34]) (he:#v[24])
  (hsw:#v[k]:=by rfl)
  (hs:FS X iter:=by intro _;rfl) (hf:FL X x:=by trivial):
  PS X #v[22] (aE2 #v[66] (pL i)):=
 xU (tc:=aMe) hN hi' hx S hc hi hg (λ_ _ _ _=>yW) he hsw hs hf
def aOd{elt iter tg ci:Expr}
  (S:#v[99]) (hc:X.calm=true) (hi:#v[62])
  (hg:#v[34]) (htc:∀C s2 H2 fp,PT #v[3] ci tc) (he:#v[24])
  (hs:FS X iter:=by intro _;rfl):PE X #v[11] #v[38]:=
 aGn S hc hi hg (λ_ _ _ _=>aJe (htc _ _ _ _)) he hs
def aE1{x:Str}{elt iter tg ci:Expr}{pos spos py:Pos}
  (hN:X.N.Nodup) (hi':X.N[i]? =some x) (hx:#v[C]) (S:#v[99]) (hc:X.calm=true) (hi:#v[62])
  (hg:#v[34]) (htc:∀C s2 H2 fp,PT #v[3] ci tc) (he:#v[24])
  (hsw:#v[57]:=by rfl)
  (hs:FS X iter:=by intro _;rfl) (hf:FL X x:=by trivial):
  PS X (.Assign [.Name x py] #v[11] spos) (aE2 #v[38] (pL i)):=
 xU hN hi' hx S hc hi hg (λ_ _ _ _=>aJe (htc _ _ _ _)) he hsw hs hf
def Ite(K:Ad)(a:Addr):It:=
 #[λi H=>∃xs x,SqL K H a xs/\xs[i]? =some x,λi H y H'=>∃p x,H p=none/\y=.ref p/\H'=upd H p (.tup [.int i,x])/\∀xs,SqL K H a xs->xs[i]? =some x,λi H=>∃xs,SqL K H a xs/\xs.length<=i]
def aKk{K:Ad}{es:List Expr}(a e it:Addr)(hei:e≠it):
  Turn P w K (.Tuple es k pos) (Ite K a) [e,it] e (λi h=>(∃old,IsEnum h e it ((i:Nat):Int) old)/\h.IsListIter it a i) where
 mem:=by simp
 obj:=λi h st b hb=>by
  obtain⟨⟨old,he⟩,⟨o,e1,c,d⟩⟩:=st;rcases List.mem_cons.mp hb with rfl|hb
  ·exact⟨_,he,λv z=>by
    have z':Ra _=Nv v:=z;cases z'⟩
  ·have e2:b=it:=by simpa using hb
   subst e2;exact#[o,e1,λv z=>by rw[d]at z;cases z]
 keep:=λi h h' st k=>by
  obtain⟨⟨old,he⟩,hit⟩:=st;exact#[#[old,k e (by simp) _ he],hit.at λo e'=>k it (by simp) o e']
 item:=by
  intro X hP hw hK hc i pins s σ H E I hf st hg;subst hP hw hK;obtain⟨⟨old,he⟩,hit⟩:=st;obtain⟨xs,x,hq,hx⟩:=hg;obtain⟨its,rv,p,hz⟩:=I.list hq;obtain⟨u,hu,ru⟩:=rv.get hx;refine wpAny_pyNext_enum_item he hit p.isList (x:=u) (by simpa using hu) hei λh' heo hit' ht hz' hk=>?_;refine#[_,rfl,wpAny_letOwnedTupleGo_enum heo λh'' he'' hs''=>?_];have hT:H #v[0]=none:=I.hok.fresh (Aj _);have heT:e≠#v[0]:=Aw (Ar he);have hfe:=hf e (by simp);have hfi:=hf it (by simp);have keep:∀b o,b≠e->b≠it->s.heap.get? b=some o->h''.get? b=some o:=λb o h1 h2 h3=>(hs''.2 b h1).trans (hk b o h1 h2 h3);have keepc:∀b o,b∉[e,it]->s.heap.get? b=some o->h''.get? b=some o:=λb o h1 h3=>keep b o (λz=>h1 (by simp[z])) (λz=>h1 (by simp[z])) h3;have tup:=(hs''.2 _ (Cg heT)).trans ht;have nf:∀b u,H b=some u->b≠e/\b≠it:=λb u q=>#[λz=>(by rw[z,hfe.1]at q;cases q),λz=>(by rw[z,hfi.1]at q;cases q)];have nT:∀b u,H b=some u->b≠#v[0]:=λb u q=>aR q hT;have iti:it≠#v[0]:=by obtain⟨o,e1,_⟩:=hit;exact Aw (Ar e1)
  refine#[.ref #v[0],upd H #v[0] (.tup [.int i,x]),?_,rfl,#[_,x,hT,rfl,rfl,λys hy=>by rw[I.list_inj hy hq];exact hx],#[#[_,he''],?_],λb hb=>?_]
  ·show Inv X pins σ (upd H #v[0] (.tup [.int i,x])) {s with heap:=h'',gens:=s.gens,drawn:=s.drawn,toks:=s.toks+1};refine Inv.step (s:=s) (h':=h'') (t':=s.toks+1) (g':=s.gens) (d':=s.drawn) (ch:=[e,it]) I (λb hb=>?_) (λb o _ _ hc' q _=>keepc b o hc' q) (λb o _ _ hc' q _=>#[o.slots,keepc b o hc' q]) (λb o _ q n=>by rw[aN (Aw (Ar q))];exact n)
    (λb o hc' q=>#[o,keepc b o hc' q]) (λb ys q=>by rw[aN (nT b _ q)];exact q) (λb o' ys q=>by rw[aN (nT b _ q)];exact q) (λb ps q=>#[(List.toArray []),by rw[aN (nT b _ q),q];simp]) (λm hm=>?_) (λb ob q=>?_) I.bare
   ·rcases List.mem_cons.mp hb with rfl|hb
    ·exact#[hfe.2.2.2.1,hfe.2.1,hfe.2.2.2.2.1,hfe.2.2.2.2.2]
    ·have e2:b=it:=by simpa using hb
     subst e2;exact#[hfi.2.2.2.1,hfi.2.1,hfi.2.2.2.2.1,hfi.2.2.2.2.2]
   ·obtain⟨o,es,ep,ho,r⟩:=hm;exact#[o,es,ep,keep _ o (Cg hfe.2.1) (Cg hfi.2.1) ho,r]
   ·by_cases hb:b=#v[0]
    ·subst hb;rw[aP]at q;cases q;exact#[show 2<=sizeLine by decide,[.int i s.toks,u],.cons #[_,rfl] (.cons ru .nil),#[_,tup,rfl,_,rfl]]
    ·rw[aN hb]at q;refine(I.hok b ob q).stay (λc w' hc' q'=>?_) (λc q'=>by rw[aN (nT c _ q')];exact q') (λc ys q'=>by rw[aN (nT c _ q')];exact q');have hne:c≠e/\c≠it:=by
      rcases hc' with rfl|hc'
      ·exact nf _ _ q
      ·exact nf _ _ hc'
     exact keep c w' hne.1 hne.2 q'
  ·exact hit'.at λo e'=>(hs''.2 it (Cg hei)).trans e'
  ·rcases List.mem_cons.mp hb with rfl|hb
   ·rw[aN heT];exact hfe.1
   ·have e2:b=it:=by simpa using hb
    subst e2;rw[aN iti];exact hfi.1
 done:=by
  intro X hP hw hK hc i pins s σ H E I hf st hg;subst hP hw hK;obtain⟨⟨old,he⟩,hit⟩:=st;obtain⟨xs,hq,hx⟩:=hg;obtain⟨its,rv,p,hz⟩:=I.list hq;obtain⟨f0,f1,f2,f3,f4,f5⟩:=hf it (by simp);have hl:=rv.length;exact wpAny_pyNext_enum_end #v[58] he hit p.isList (by simp;lia) λh' eb=>#[rfl,I.turned (t':=s.toks) (λb o hb q=>eb b o hb q) f0 f1 f3 f4 f5]
 self:=λ_ _ _ _ _ st h=>by
  obtain⟨⟨old,he⟩,hit⟩:=st;exact Ve he h
def aYe(K:Ad)(ta:TA):TI:=λσ H R=>ta σ H λvs H1=>∃a,vs=[.ref a]/\(∃xs,SqL K H1 a xs)/\R (Ite K a) H1
def aSp{es:List Expr}{p pos:Pos}(hg:Gl X "enumerate")(hm:X.mg "enumerate"=none)(ha:PA X [a] ta)(hs:#v[72]:=by rfl):
  PI X (.Tuple es k pos') (.Call (.Name "enumerate" p) [a] [] pos) (aYe X.K ta):=by
 intro pins s σ H R I h;refine Call_ (oU I hg hm boot_enumerate (Dk (thn #v[P] λus s1 ⟨vs,H1,I1,r1,q1⟩=>?_) hs rfl));obtain⟨l,e,⟨xs,hq⟩,q⟩:=q1;subst e;cases r1 with
 |cons r rr=>
  cases rr;cases r;obtain⟨its,rv,pl,hz⟩:=I1.list hq;refine call_enumerate_list pl.isList λh' he hit hz' hk=>Ve he ?_;have I2:Inv X pins σ H1 {s1 with heap:=h'}:=I1.kept (t':=s1.toks) λb o e=>hk b o e;have hne:s1.heap.objs.size+1≠s1.heap.objs.size:=Nat.succ_ne_self _;refine#[s1.heap.objs.size+1,[s1.heap.objs.size+1,s1.heap.objs.size],_,_,H1,rfl,I2,aKk l _ _ hne,#[#[_,he],hit],λb hb=>?_,q];rcases List.mem_cons.mp hb with rfl|hb
  ·exact I1.fpOk (Gd _) (I1.hok.fresh (Gd _))
  ·have e2:b=s1.heap.objs.size:=by simpa using hb
   subst e2;exact I1.fpOk (Aj _) (I1.hok.fresh (Aj _))
def aEz:dO X (.builtin "isinstance") (λxs H Q=>∃x n t b,xs=[x,.ty n]/\vU X.K H x t/\Nb X.K t (.type n)=some b/\Q (.bl b) H):=by
 intro pins s σ H xs us Q I r h;obtain⟨x,n,t,b,rfl,ty,e,q⟩:=h;obtain⟨u,w',rfl,ru,rw'⟩:=vals2 r;cases rw';exact aL0 I ru ty e λtk=>#[.bl b,H,I.tok tk,rfl,q]
def aPd:OpR X (binaryOp .Add) (λx y H Q=>∃a b ys,x=.ref a/\y=.ref b/\SqT X.K H a []/\SqT X.K H b ys/\Q (.ref b) H):=by
 intro pins s σ H x y v u Q I rx ry h;obtain⟨a,b,ys,rfl,rfl,ha,hb,q⟩:=h;cases rx;cases ry;obtain⟨its,r1,p1,_⟩:=I.tuple ha;obtain⟨its2,r2,p2,_⟩:=I.tuple hb;cases r1;obtain⟨⟨cls,dd,data,sl⟩,ho,hc,n,hd⟩:=id p1;obtain⟨⟨cls2,dd2,data2,sl2⟩,ho2,hc2,n2,hd2⟩:=id p2;simp only at hc hd hc2 hd2;subst hc hd hc2 hd2;exact Si #[_,ho,rfl] #[_,ho2,rfl] Ou Rg Kb Js (Jm _ _)
   (tuple_addW0 a b _ _ n n2 dd dd2 sl sl2 (by simp)) #[ho,ho2,#[.ref b,H,I,rfl,q]]
def aFl{x:V}(h:rD x=true):eqV x x=true:=by
 cases x<;>first|rfl|exact beq_self_eq_true _|(exact(An h).elim)
def rT(e:Nat->Bool)(n:Nat):(Bh (n+1)).all e=(e 0 && (Bh n).all λj=>e (j+1)):=by
 rw[List.range_succ_eq_map,Uq,List.all_map];rfl
section
variable {X:Cx}{pins:#v[8]}{σ:St}{H:Hp}{s:Shared}{A:Around}
end
theorem pQ(env:Env):∀(names:List (Str×NameKind))(acc:#v[60]),(∀y∈names,y.2=.free->∃c,env.cells.lookup y.1=some c)->(∀x c,acc.lookup x=some c->env.cells.lookup x=some c)->
  ∃cl,(forIn names acc (λ(x:Str×NameKind)(cs:#v[60])=>(if(x.2==Dm)=true then(do let a<-cellOf env x.1;pure (Hs ((x.1,a)::cs)):Sem _)else pure (Hs cs))):Sem (List (Str×Addr)))=pure cl/\
   (∀x c,cl.lookup x=some c->env.cells.lookup x=some c)/\(∀x,(∃c,acc.lookup x=some c)∨(x,Dm)∈names->∃c,cl.lookup x=some c)
 | [],acc,_,h2=>#[acc,rfl,h2,λx hx=>hx.elim id λz=>(by cases z)]
 |(n,k)::r,acc,h1,h2=>by
  by_cases hk:k=.free
  ·subst hk;obtain⟨c,hc⟩:=h1 (n,.free) Ah rfl;obtain⟨cl,e,a,b⟩:=pQ env r ((n,c)::acc) (λy hy=>h1 y (Af _ hy)) (λx c' hx=>by
    cases hxn:x==n with
    |true=>
     simp only[Bk,hxn]at hx;have:x=n:=eq_of_beq hxn;subst this;cases hx;exact hc
    |false=>
     simp only[Bk,hxn]at hx;exact h2 x c' hx)
   refine#[cl,?_,a,λx hx=>b x ?_]
   ·rw[<-e,Gq];have ec:cellOf env n=pure c:=by unfold cellOf;rw[hc]
    simp only[beq_self_eq_true,if_true,ec];rfl
   ·rcases hx with ⟨c',hx⟩|hx
    ·refine .inl ?_;cases hxn:x==n with
     |true=>exact#[c,by simp only[Bk,hxn]]
     |false=>exact#[c',by simp only[Bk,hxn];exact hx]
    ·rcases List.mem_cons.mp hx with z|z
     ·cases z;exact .inl #[c,by simp[Bk]]
     ·exact .inr z
  ·obtain⟨cl,e,a,b⟩:=pQ env r acc (λy hy=>h1 y (Af _ hy)) h2;refine#[cl,?_,a,λx hx=>b x ?_]
   ·rw[<-e,Gq];have hb:(k==Dm)=false:=by simpa using hk
    simp only[hb,Cm,if_false];rfl
   ·rcases hx with hx|hx
    ·exact .inl hx
    ·rcases List.mem_cons.mp hx with z|z
     ·cases z;exact absurd rfl hk
     ·exact .inr z
def aIh{X:Cx}(hcell:HC X)(kind:scope.kind=.function)(nocell:∀y∈scope.names,y.2≠.cell)
  (names:∀y∈scope.names,y.2=.local->scope.names.lookup y.1=some .local) (free:∀y∈scope.names,y.2=.free->X.env.scope.names.lookup y.1=some .cell)
  (hcap:∀p∈cap,X.N[p.2]? =some p.1/\scope.names.lookup p.1=some .free/\X.env.scope.names.lookup p.1=some .cell):∃cl,cZ X scope cap cl:=by
 obtain⟨cl,e,a,b⟩:=pQ X.env scope.names [] (λy hy hf=>hcell _ (free y hy hf)) (λx c h=>by simp at h);refine#[cl,?_,kind,nocell,names,a,λx hx=>b x (.inr (Cq hx)),hcap];unfold closureFor;refine Ws ?_ e;simp only[bind_pure]
def Itz(K:Ad)(a b:Addr):It:=
 ⟨λi H=>∃xs ys x y,SqT K H a xs/\SqL K H b ys/\xs[i]? =some x/\ys[i]? =some y,λi H v H'=>∃p x y,H p=none/\v=.ref p/\H'=upd H p (.tup [x,y])/\(∀xs,SqT K H a xs->xs[i]? =some x)/\∀ys,SqL K H b ys->ys[i]? =some y,
  λi H=>∃xs,SqT K H a xs/\xs.length<=i⟩
def aPi{K:Ad}{es:List Expr}{a b z TI TO i1 i2:Addr}(D:ZipApart z TI TO i1 i2 a b):
  Turn P w K (.Tuple es k pos) (Itz K a b) [z,TI,TO,i1,i2] z (λi h=>aQ1 h z TI TO i1 i2 a b i .none) where
 mem:=by simp
 obj:=λi h st c hc=>by
  obtain⟨hz,hTI,⟨x,y,hTO⟩,⟨o1,e1,c1,d1⟩,⟨o2,e2,c2,d2⟩⟩:=st;simp only[Cr,Bz,or_false]at hc;rcases hc with rfl|rfl|rfl|rfl|rfl
  ·exact⟨_,hz,λv q=>by
    have q':Ra _=Nv v:=q;cases q'⟩
  ·exact⟨_,hTI,λv q=>by
    have q':Uy _ _=Nv v:=q;cases q'⟩
  ·exact⟨_,hTO,λv q=>by
    have q':Uy _ _=Nv v:=q;cases q'⟩
  ·exact#[o1,e1,λv q=>by rw[d1]at q;cases q]
  ·exact#[o2,e2,λv q=>by rw[d2]at q;cases q]
 keep:=λi h h' st k=>by
  obtain⟨hz,hTI,⟨x,y,hTO⟩,h1,h2⟩:=st;exact#[k z (by simp) _ hz,k TI (by simp) _ hTI,#[x,y,k TO (by simp) _ hTO],h1.at λo e=>k i1 (by simp) o e,h2.at λo e=>k i2 (by simp) o e]
 item:=by
  intro X hP hw hK hc i pins s σ H E I hf st hg;subst hP hw hK;obtain⟨xs,ys,x,y,hq1,hq2,hx,hy⟩:=hg;obtain⟨its1,rv1,p1,hz1⟩:=I.tuple hq1;obtain⟨its2,rv2,p2,hz2⟩:=I.list hq2;obtain⟨u1,hu1,ru1⟩:=rv1.get hx;obtain⟨u2,hu2,ru2⟩:=rv2.get hy;refine aLg D st p1 p2.isList (x:=u1) (y:=u2) (by simpa using hu1) (by simpa using hu2) λh' st' ht hsz hk=>?_;obtain⟨hz',hTI',⟨a',b',hTO'⟩,h1',h2'⟩:=st';refine#[_,rfl,wpAny_letOwnedTupleGo_zip hz' λh'' hz'' hs''=>?_];have hT:H #v[0]=none:=I.hok.fresh (Aj _);obtain⟨sz,sTI,⟨_,_,sTO⟩,⟨so1,s1,_⟩,⟨so2,s2,_⟩⟩:=st;have lz:=Ar sz;have nz:z≠#v[0]:=Aw lz;have nTO:TO≠#v[0]:=Aw (Ar sTO);have nTI:TI≠#v[0]:=Aw (Ar sTI);have n1:i1≠#v[0]:=Aw (Ar s1);have n2:i2≠#v[0]:=Aw (Ar s2);have keep:∀c o,c≠z->c≠TO->c≠i1->c≠i2->s.heap.get? c=some o->h''.get? c=some o:=λc o c1 c2 c3 c4 e=>(hs''.2 c c1).trans (hk c o c1 c2 c3 c4 e);have keepc:∀c o,c∉[z,TI,TO,i1,i2]->s.heap.get? c=some o->h''.get? c=some o:=λc o hc e=>keep c o (λq=>hc (by simp[q])) (λq=>hc (by simp[q])) (λq=>hc (by simp[q])) (λq=>hc (by simp[q])) e;have tup:=(hs''.2 _ (Cg nz)).trans ht;have fz:=hf z (by simp);have fTI:=hf TI (by simp);have fTO:=hf TO (by simp);have f1:=hf i1 (by simp);have f2:=hf i2 (by simp);have nf:∀c u,H c=some u->c≠z/\c≠TO/\c≠i1/\c≠i2:=λc u q=>#[λe=>(by rw[e,fz.1]at q;cases q),λe=>(by rw[e,fTO.1]at q;cases q),λe=>(by rw[e,f1.1]at q;cases q),λe=>(by rw[e,f2.1]at q;cases q)];have nT:∀c u,H c=some u->c≠#v[0]:=λc u q=>aR q hT;refine⟨.ref #v[0],upd H #v[0] (.tup [x,y]),?_,rfl,#[_,x,y,hT,rfl,rfl,λzs hz=>(by rw[I.tuple_inj hz hq1];exact hx),λzs hz=>(by rw[I.list_inj hz hq2];exact hy)],
   #[hz'',(hs''.2 _ D.TIz).trans hTI',#[_,_,(hs''.2 _ D.TOz).trans hTO'],h1'.at λo e=>(hs''.2 _ D.i1z).trans e,h2'.at λo e=>(hs''.2 _ D.i2z).trans e],λc hc=>?_⟩
  ·show Inv X pins σ (upd H #v[0] (.tup [x,y])) {s with heap:=h'',gens:=s.gens,drawn:=s.drawn,toks:=s.toks};refine Inv.step (s:=s) (h':=h'') (t':=s.toks) (g':=s.gens) (d':=s.drawn) (ch:=[z,TI,TO,i1,i2]) I (λc hc=>?_) (λc o _ _ hc' q _=>keepc c o hc' q) (λc o _ _ hc' q _=>#[o.slots,keepc c o hc' q]) (λc o _ q n=>by rw[aN (Aw (Ar q))];exact n)
    (λc o hc' q=>#[o,keepc c o hc' q]) (λc ys q=>by rw[aN (nT c _ q)];exact q) (λc o' ys q=>by rw[aN (nT c _ q)];exact q) (λc ps q=>#[(List.toArray []),by rw[aN (nT c _ q),q];simp]) (λm hm=>?_) (λc ob q=>?_) I.bare
   ·have:=hf c hc;exact#[this.2.2.2.1,this.2.1,this.2.2.2.2.1,this.2.2.2.2.2]
   ·obtain⟨o,es,ep,ho,r⟩:=hm;exact#[o,es,ep,keep _ o (Cg fz.2.1) (Cg fTO.2.1) (Cg f1.2.1) (Cg f2.2.1) ho,r]
   ·by_cases hb:c=#v[0]
    ·subst hb;rw[aP]at q;cases q;exact#[show 2<=sizeLine by decide,[u1,u2],.cons ru1 (.cons ru2 .nil),#[_,tup,rfl,_,rfl]]
    ·rw[aN hb]at q;refine(I.hok c ob q).stay (λd w' hc' q'=>?_) (λd q'=>by rw[aN (nT d _ q')];exact q') (λd ys q'=>by rw[aN (nT d _ q')];exact q');have hne:d≠z/\d≠TO/\d≠i1/\d≠i2:=by
      rcases hc' with rfl|hc'
      ·exact nf _ _ q
      ·exact nf _ _ hc'
     exact keep d w' hne.1 hne.2.1 hne.2.2.1 hne.2.2.2 q'
  ·simp only[Cr,Bz,or_false]at hc;rcases hc with rfl|rfl|rfl|rfl|rfl
   ·rw[aN nz];exact fz.1
   ·rw[aN nTI];exact fTI.1
   ·rw[aN nTO];exact fTO.1
   ·rw[aN n1];exact f1.1
   ·rw[aN n2];exact f2.1
 done:=by
  intro X hP hw hK hc i pins s σ H E I hf st hg;subst hP hw hK;obtain⟨xs,hq,hx⟩:=hg;obtain⟨its,rv,p,hz⟩:=I.tuple hq;have hl:=rv.length;have fz:=hf z (by simp);have fTO:=hf TO (by simp);have f1:=hf i1 (by simp);have f2:=hf i2 (by simp);refine aQj #v[58] D st p (by simp;lia) λh' hk=>#[rfl,?_];have keepc:∀c o,c∉[z,TO,i1,i2]->s.heap.get? c=some o->h'.get? c=some o:=λc o hc e=>hk c o (λq=>hc (by simp[q])) (λq=>hc (by simp[q])) (λq=>hc (by simp[q])) (λq=>hc (by simp[q])) e;have nf:∀c u,H c=some u->c∉[z,TO,i1,i2]:=λc u q hc=>by
   simp only[Cr,Bz,or_false]at hc;rcases hc with rfl|rfl|rfl|rfl
   ·rw[fz.1]at q;cases q
   ·rw[fTO.1]at q;cases q
   ·rw[f1.1]at q;cases q
   ·rw[f2.1]at q;cases q
  show Inv X pins σ H {s with heap:=h',gens:=s.gens,drawn:=s.drawn,toks:=s.toks};refine Inv.step (s:=s) (h':=h') (t':=s.toks) (g':=s.gens) (d':=s.drawn) (ch:=[z,TO,i1,i2]) I (λc hc=>?_) (λc o _ _ hc' q _=>keepc c o hc' q) (λc o _ _ hc' q _=>#[o.slots,keepc c o hc' q]) (λ_ _ _ _ n=>n)
   (λc o hc' q=>#[o,keepc c o hc' q]) (λ_ _ q=>q) (λ_ _ _ q=>q) (λc ps q=>#[(List.toArray []),by rw[q];simp]) (λm hm=>?_) (λc ob q=>?_) I.bare
  ·have hc':c∈[z,TI,TO,i1,i2]:=by
    simp only[Cr,Bz,or_false]at hc⊢;rcases hc with h|h|h|h<;>simp[h]
   have:=hf c hc';exact#[this.2.2.2.1,this.2.1,this.2.2.2.2.1,this.2.2.2.2.2]
  ·obtain⟨o,es,ep,ho,r⟩:=hm;exact#[o,es,ep,hk _ o (Cg fz.2.1) (Cg fTO.2.1) (Cg f1.2.1) (Cg f2.2.1) ho,r]
  ·refine(I.hok c ob q).stay (λd w' hc' q'=>?_) (λ_ q'=>q') (λ_ _ q'=>q');refine keepc d w' ?_ q';rcases hc' with rfl|hc'
   ·exact nf _ _ q
   ·exact nf _ _ hc'
 self:=λ_ _ _ _ _ st h=>Vy st.z h
def bA7(K:Ad)(ta:TA):TI:=λσ H R=>ta σ H λvs H1=>∃a b,vs=[.ref a,.ref b]/\(∃xs,SqT K H1 a xs)/\(∃ys,SqL K H1 b ys)/\R (Itz K a b) H1
def aWr{es:List Expr}{a b:Expr}{p pos:Pos}(hg:Gl X "zip")(hm:X.mg "zip"=none)(ha:PA X [a,b] ta)(hs:#v[h]:=by rfl)(hs2:#v[I]:=by rfl):
  PI X (.Tuple es k pos') (.Call (.Name "zip" p) [a,b] [] pos) (bA7 X.K ta):=by
 intro pins s σ H R I h;refine Call_ (oU I hg hm (show bootBuiltins "zip"=some (.type "zip") by decide+kernel) (Dk (thn #v[P] λus s1 ⟨vs,H1,I1,r1,q1⟩=>?_) (by rw[hs,hs2]) (by rw[hs2];rfl)));obtain⟨t,l,e,⟨xs,hq1⟩,⟨ys,hq2⟩,q⟩:=q1;subst e;obtain⟨u,w',rfl,ru,rw'⟩:=vals2 r1;cases ru;cases rw';obtain⟨its1,rv1,p1,_⟩:=I1.tuple hq1;obtain⟨its2,rv2,p2,_⟩:=I1.list hq2;refine aKx p1 p2.isList λh' st hk=>Vy st.z ?_;have I2:Inv X pins σ H1 {s1 with heap:=h'}:=I1.kept (t':=s1.toks) λb o e=>hk b o e;have lt:t<s1.heap.objs.size:=by obtain⟨o,e,_⟩:=p1;exact Ar e
 have ll:l<s1.heap.objs.size:=by obtain⟨o,e,_⟩:=p2.isList;exact Ar e
 have ne:∀{m n:Nat},m<n->m≠n:=λh=>Aw h;have D:ZipApart (s1.heap.objs.size+4) (s1.heap.objs.size+2) (s1.heap.objs.size+3) s1.heap.objs.size (s1.heap.objs.size+1) t l:=by
  have e:∀n:Nat,t≠s1.heap.objs.size+n:=λn=>ne (Be lt (Co _ _));have e':∀n:Nat,l≠s1.heap.objs.size+n:=λn=>ne (Be ll (Co _ _));refine#[?_,?_,?_,?_,?_,?_,?_,?_,?_,?_,e 4,e 3,e 0,e 1,e' 4,e' 3,e' 0,e' 1]<;>first|exact Aw ∅|exact Fc ∅
 refine#[s1.heap.objs.size+4,_,_,_,H1,rfl,I2,aPi D,st,λc hc=>?_,q];have hle:s1.heap.objs.size<=c:=by
  simp only[Cr,Bz,or_false]at hc;rcases hc with rfl|rfl|rfl|rfl|rfl
  ·exact Co _ _
  ·exact Co _ _
  ·exact Co _ _
  ·exact Aj _
  ·exact Co _ _
 exact I1.fpOk hle (I1.hok.fresh hle)
def jQ:dO X (.builtin "all") (λxs H Q=>∃(p:Addr)(bs:List Bool),xs=[.ref p]/\SqL X.K H p (bs.map V.bl)/\X.calm=true/\Q (.bl (bs.all id)) H):=by
 intro pins s σ H xs us Q I r h;obtain⟨p,bs,rfl,hq,hc,q⟩:=h;obtain⟨u,rfl,ru⟩:=vals1 r;cases ru;obtain⟨its,rv,pl,hz⟩:=I.list hq;have hl:=rv.length;rw[Ab]at hl;refine call_all_walk (Ir pl.isList ?_);have hlt:p<#v[0]:=by obtain⟨o,e,_⟩:=pl.isList;exact Ar e
 have hne:p≠#v[0]:=Aw hlt;have hd:X.A.in1.handled=none:=I.ok.hd hc;refine#[#v[0],_,_,_,_,_,λi=>bs.getD i true,rfl,Oj hd #v[0] p hne its.toArray,#[#[_,Ap _ rfl,rfl,rfl],pl.isList.push _],λi v s' Q' E' hv hQ=>?_,λh' tk hk=>?_]
 ·have hv':its[i]? =some v:=by simpa using hv
  have hi:i<its.length:=(List.getElem?_eq_some_iff.mp hv').1;have hi':i<bs.length:=by lia
  have e1:(bs.map V.bl)[i]? =some (V.bl bs[i]):=by simp[hi']
  obtain⟨u,hu,ru⟩:=rv.get e1;rw[hv']at hu;cases hu;have ru':v=Jr bs[i]:=ru;subst ru';have e2:bs.getD i true=bs[i]:=by simp[hi']
  have hQ':Q' (bs.getD i true) s':=hQ;rw[e2]at hQ';exact Dl hQ'
 ·refine#[.bl (bs.all id),H,?_,?_,q]
  ·exact I.kept (t':=tk) λb o e=>hk b o (by simp;exact Aw (Ar e)) (Ae _ e)
  ·show Jr _=Jr _;congr 1;have e:its.toArray.size=bs.length:=by rw[Ak];lia
   rw[e];have:∀l:List Bool,(Bh l.length).all (λi=>l.getD i true)=l.all id:=by
    intro l;induction l with
    |nil=>rfl
    |cons b l ih=>
     rw[Am,rT,Uq, <-ih];congr 1
   exact this bs
theorem uD:∀{us:List Value}{ns:List Int},IntsAre us ns->Vals #v[M] us
 |_,_,.nil=> .nil
 |_,_,.cons i t r=> .cons #[t,rfl] (uD r)
theorem aEw:∀{xs:List V}{us:List Value},xs.length=us.length->(∀(j:Nat) x u,xs[j]? =some x->us[j]? =some u->RelV x u)->Vals xs us
 | [],[],_,_=> .nil
 | [],_::_,h,_=>by simp at h
 |_::_,[],h,_=>by simp at h
 |x::xs,u::us,h,f=> .cons (f 0 x u rfl rfl) (aEw (by simpa using h) λj x' u' h1 h2=>f (j+1) x' u' (by simpa using h1) (by simpa using h2))
inductive aE9(K:Ad)(xs:List V)(H:Hp)(Q:VK):Prop
 |mk (p:Addr) (ns:List Int) (q0_:xs=[.ref p]) (q1_:SqL K H p #v[M]) (q2_:ns.length<64) (q3_:∀ms:List Int,ms.Perm ns->ms.Pairwise (·<=·)->∀l,H l=none->Q (.ref l) (upd H l (.lst (ms.map V.int)))):aE9 K xs H Q
def aJt(K:Ad):List V->Hp->VK->Prop:=λxs H Q=>aE9 K xs H Q
def yC:dO X (.builtin "sorted") (aJt X.K):=by
 intro pins s σ H xs us Q I r h;obtain⟨p,ns,rfl,hq,h64,q⟩:=h;obtain⟨u,rfl,ru⟩:=vals1 r;cases ru;obtain⟨its,rv,pl,hz⟩:=I.list hq;have hl:=rv.length;rw[Ab]at hl;refine sorted_ints pl.isList (intsAre_of rv) ∅ λout ms hi hp ho=>?_;obtain⟨e,he⟩:=sortedAll_at s.heap its out;refine#[.ref (#v[0]+1),_,I.laid (t':=s.toks) (o:=.lst (ms.map V.int)) (λb o q=>sortedAll_old q) (Gd _) ?_,rfl,q ms hp ho _ (I.hok.fresh (Gd _))];refine#[?_,out.toList,e,uD hi,by simpa using he];rw[Ab,hp.length_eq];have:(64:Nat)<=sizeLine:=by decide
 lia
theorem aAw(f:Nat->Int)(ns:List Int)(h:∀j,j<ns.length->f j=ns.getD j 0):∀n,n<=ns.length->preSum f n=(ns.take n).sum
 |0,_=>by simp[preSum]
 |n+1,hn=>by
  show preSum f n+f n=_;rw[aAw f ns h n ∅,h n hn,Lg];have e:ns[n]? =some (ns.getD n 0):=by simp[show n<ns.length from hn]
  rw[e,Ti];simp
theorem yD:∀(ns:List Int)(b:Int),(∀n∈ns,0<=n/\n<=b)->0<=b->∀j,0<=(ns.take j).sum/\(ns.take j).sum<=ns.length*b
 | [],b,_,hb,j=>by simp
 |n::ns,b,h,hb,0=>by
  simp;exact Ur ∅ hb
 |n::ns,b,h,hb,j+1=>by
  have ih:=yD ns b (λm hm=>h m (Af _ hm)) hb j;have hn:=h n Ah;rw[List.take_succ_cons,Eg,Am];have:((ns.length+1:Nat):Int)*b=ns.length*b+b:=by rw[Od,Xg];simp
  rw[this]
  lia
inductive aUt(K:Ad)(xs:List V)(H:Hp)(Q:VK):Prop
 |mk (p:Addr) (ns:List Int) (q0_:xs=[.ref p]) (q1_:SqL K H p #v[M]) (q2_:ns.length<=1000) (q3_:(∀n∈ns,0<=n/\n<=1000)) (q4_:Q (.int ns.sum) H):aUt K xs H Q
def aYy(K:Ad):List V->Hp->VK->Prop:=λxs H Q=>aUt K xs H Q
def vA(hc:X.calm=true):dO X (.builtin "sum") (aYy X.K):=by
 intro pins s σ H xs us Q I r h;obtain⟨p,ns,rfl,hq,hln,hb,q⟩:=h;obtain⟨u,rfl,ru⟩:=vals1 r;cases ru;obtain⟨its,rv,pl,hz⟩:=I.list hq;have hi:IntsAre its ns:=intsAre_of rv;obtain⟨ys,e⟩:=hi.allInts.items;have hns:ns=ys.toList.map (·.1):=by
  rw[<-hi.numsOf, <-Rh, <-e]
 have hsz:ys.size=ns.length:=by rw[hns,Ab,As]
 have hl:=pl.isList;rw[e]at hl;have hat:∀j,j<ns.length->numAt ys j=ns.getD j 0:=λj hj=>by
  rw[Ri,hns]
 have hps:∀n,n<=ns.length->preSum (numAt ys) n=(ns.take n).sum:=aAw _ _ hat;have hsum:=yD ns 1000 hb ⋯;have hbig:(ns.length:Int)*1000<=1000000:=by lia
 refine sum_intList #v[58] hl (λj hj=>#[?_,?_]) λh' tk t' hk=>?_
 ·have hj':j<ns.length:=by lia
  rw[hat j hj'];have:=hb (ns.getD j 0) (by simp[hj']);exact#[∅,∅]
 ·rw[hps (j+1) ∅];have:=hsum (j+1);exact#[∅,∅]
 ·refine#[.int _,H,I.kept (t':=tk) hk,#[t',rfl],?_];rw[hsz,hps _ (Aj _),Kg];exact q
def aEk:dO X (.type "range") (λxs H Q=>∃n:Nat,xs=[.int (n:Int)]/\∀r,H r=none->Q (.ref r) (upd H r (.rng 0 n))):=by
 intro pins s σ H xs us Q I r h;obtain⟨n,rfl,q⟩:=h;obtain⟨u,rfl,t,rfl⟩:=vals1 r;refine call_range_1 #[.ref #v[0],_,I.laid (t':=s.toks+1+1) (o:=.rng 0 n) (λb o e=>Ae _ e) (Aj _) ?_,rfl,q _ #v[G]];exact#[_,_,_,Ap _ rfl]
def aG4(hc:X.calm=true):dO X (.type "list") (λxs H Q=>∃(p:Addr)(n:Nat),xs=[.ref p]/\H p=some (.rng 0 n)/\n<=1000/\∀l,H l=none->Q (.ref l) (upd H l (.lst ((Bh n).map λk:Nat=>V.int (k:Int))))):=by
 intro pins s σ H xs us Q I r h;obtain⟨p,n,rfl,ha,hn,q⟩:=h;obtain⟨u,rfl,ru⟩:=vals1 r;cases ru;obtain⟨t,u,v,e⟩:=I.hok p _ ha;have hrs:Mg 0 (n:Int) 1=n:=by rw[rangeSize_one];split<;>lia
 refine call_list_range #v[58] e (small_one ∅ ∅ ∅ ∅) hrs ∅ λh' tk acc' c' hk hS hacc=>?_;have hs:sizeLine=16777216:=Dy;refine#[.ref #v[0],_,I.laid (t':=tk) (o:=.lst ((Bh n).map λk:Nat=>V.int (k:Int))) hk (Aj _) #[by rw[Ab,Cw];lia,acc'.toList,c',?_,by simpa using hS],rfl,q _ #v[G]];refine aEw (by rw[Ab,Cw,As];exact hacc.1.symm) λj x u h1 h2=>?_;obtain⟨t2,rfl⟩:=hacc.2 j u (by rw[<-Cj];exact h2);have hj:j<n:=by
  have:=(List.getElem?_eq_some_iff.mp h1).1;simpa using this
 rw[Ay,Qy hj]at h1;cases h1;exact#[t2,by congr 1;lia]
def aO8(h:k<=sizeLine):¬(!Gh (k:Int))=true:=by
 have e:=Dy;have h1:(k:Int)<9223372036854775808:=by lia
 have h2: -(9223372036854775808:Int)<=(k:Int):=by lia
 simp[Gh,h1,h2]
section
variable {X:Cx}{pins:#v[8]}{σ:St}{H:Hp}{s:Shared}{d:Addr}{kvs:List (Key×V)}{o:Obj}
end
variable {o:Expr}{tg:Expr}{te:TE}{apos cpos:Pos}
section
variable {as:List Addr}{b:Bool}
variable {prog:Program}{w:World}{A:Around}{E:#v[7]}{s:Shared}
abbrev sY(g:Heap)(z TI TO T:Addr)(b:Bool):Prop:=
 g.get? z=some {cls:=.type "zip",dict:=none,data:=.fields (List.toArray [rawInt T,.bool b,.bool false,.ref TI,.ref TO]),slots:= (List.toArray [])}
def aBu{z TI TO T:Addr}{Q:Bool->Shared->Prop}(Z:sY s.heap z TI TO T b)(hT:s.heap.get? T=some oT)
  (q:∀h',sY h' z TI TO T true->Dv z s.heap h'->Q false {s with heap:=h'}):
  #v[2] (Bu (.ref z)) Q E s:=by
 unfold Bu;refine Aa (De Z rfl (x:=rawInt T) rfl ?_);show wpAny _ _ (loadIfAlive T>>=_) _ _ _;refine Aa (PySem.W.kdx_alive hT ?_);refine Aa (De Z rfl (x:=.bool b) rfl ?_);cases b with
 |true=>exact Ac (q s.heap Z #[rfl,λ_ _=>rfl])
 |false=>exact Aa (Gy Z (by simp) λg Zg eg=>Ac (q g Zg eg))
def aLz{z TI TO i1 i2 l1 l2 T:Addr}{k1 k2:Nat}{x y:Value}(D:ZipApart z TI TO i1 i2 l1 l2)
  (Z:sY s.heap z TI TO T b) (hT:s.heap.get? T=some oT) (hI:IsPair s.heap TI (.ref i1) (.ref i2))
  (h1:s.heap.IsListIter i1 l1 k1) (h2:s.heap.IsListIter i2 l2 k2) (hl1:s.heap.IsList l1 xs) (hl2:s.heap.IsList l2 ys) (hx:xs[k1]? =some x) (hy:ys[k2]? =some y)
  (q:∀h',sY h' z TI TO T true->h'.IsListIter i1 l1 (k1+1)->h'.IsListIter i2 l2 (k2+1)->IsPair h' #v[0] x y->h'.objs.size=#v[0]+1->
   (∀c o,c≠z->c≠i1->c≠i2->s.heap.get? c=some o->h'.get? c=some o)->Q (some #v[32]) {s with heap:=h'}):
  #v[2] (pyNext (.ref z)) Q E s:=by
 have ty:s.TypeIs (.ref z) "zip":=#[_,Z,rfl];unfold pyNext;refine Aa (Gj (Cc (name:=Do "__next__") ty Ga (Bl Ga ty Kt ?_ (Kk _))));show wpAny _ _ (field (.ref z) 2>>=_) _ _ _;refine Aa (De Z rfl (x:=.bool false) rfl ?_);show wpAny _ _ (field (.ref z) 3>>=_) _ _ _;refine Aa (De Z rfl (x:=.ref TI) rfl ?_);refine Aa (Cp hI rfl ?_);show wpAny _ _ (Bu (.ref z)>>=_) _ _ _;refine Aa (aBu Z hT λg1 Z1 e1=>?_)
 ac_rfl
 refine Aa ?_;simp only[Rp,Gq,Ii];refine Aa (Aa (Bq ?_));show wpAny _ _ (Cd (.ref i1)>>=_) _ _ _;refine Aa (Ld (h1.extBut e1.extBut D.i1z) (hl1.extBut e1.extBut D.l1z) hx λg2 j1 e2=>Ac ?_);refine Ac ?_;refine Aa (Aa (Bq ?_));show wpAny _ _ (Cd (.ref i2)>>=_) _ _ _;refine Aa (Ld ((h2.extBut e1.extBut D.i2z).extBut e2.extBut D.i12.symm) ((hl2.extBut e1.extBut D.l2z).extBut e2.extBut D.l2i1) hy λg3 j2 e3=>Ac ?_);refine Ac (Ac ?_);refine Aa (Qg ?_ (show 2<=sizeLine by decide));refine Ac #[_,rfl,Ac ?_];have sz:g3.objs.size=#v[0]:=by rw[e3.1,e2.1,e1.1]
 have kp:∀c o,c≠z->c≠i1->c≠i2->s.heap.get? c=some o->g3.get? c=some o:=λc o n1 n2 n3 e=>e3.extBut _ _ n3 (e2.extBut _ _ n2 (e1.extBut _ _ n1 e));show Q (some (.ref g3.objs.size)) _;rw[sz];refine q _ (Ae _ (e3.extBut _ _ D.i2z.symm (e2.extBut _ _ D.i1z.symm Z1))) ((j1.extBut e3.extBut D.i12).at λo e=>Ae _ e) (j2.at λo e=>Ae _ e) ?_ (by rw[Ck,sz]) λc o n1 n2 n3 e=>Ae _ (kp c o n1 n2 n3 e);rw[<-sz];exact Ap _ rfl
def aOz{z TI TO i1 i2 l1 l2 T:Addr}{k1:Nat}{xs:Array Value}(hh:#v[O])(D:ZipApart z TI TO i1 i2 l1 l2)
  (Z:sY s.heap z TI TO T b) (hT:s.heap.get? T=some oT) (hI:IsPair s.heap TI (.ref i1) (.ref i2))
  (h1:s.heap.IsListIter i1 l1 k1) (hl1:s.heap.IsList l1 xs) (hx:xs[k1]? =none)
  (q:∀h',(∀c o,c≠z->c≠i1->s.heap.get? c=some o->h'.get? c=some o)->Q none {s with heap:=h'}):
  #v[2] (pyNext (.ref z)) Q E s:=by
 have ty:s.TypeIs (.ref z) "zip":=#[_,Z,rfl];unfold pyNext;refine Aa (Gj (Cc (name:=Do "__next__") ty Ga (Bl Ga ty Kt ?_ (Kk _))));show wpAny _ _ (field (.ref z) 2>>=_) _ _ _;refine Aa (De Z rfl (x:=.bool false) rfl ?_);show wpAny _ _ (field (.ref z) 3>>=_) _ _ _;refine Aa (De Z rfl (x:=.ref TI) rfl ?_);refine Aa (Cp hI rfl ?_);show wpAny _ _ (Bu (.ref z)>>=_) _ _ _;refine Aa (aBu Z hT λg1 Z1 e1=>?_)
 ac_rfl
 refine Aa ?_;simp only[Rp,Gq,Ii];refine Aa (Aa (Bq ?_));show wpAny _ _ (Cd (.ref i1)>>=_) _ _ _;refine Aa (wpAny_nextOf_list_end hh (h1.extBut e1.extBut D.i1z) (hl1.extBut e1.extBut D.l1z) hx λg2 ex e2 he=>?_);obtain⟨o,ho,hc⟩:=he;refine Aa (Ed (T:="StopIteration") (b:=true) #[o,ho,hc] Kf ?_);exact Ac (q _ λc o n1 n2 e=>e2 c o n2 (e1.extBut _ _ n1 e))
structure aD9(h:Heap)(N l1 l2:Addr)(xs ys:Array Value)(i:Nat):Prop where
 ti:IsPair h (N+2) (.ref N) (.ref (N+1))
 h1:h.IsListIter N l1 i
 h2:h.IsListIter (N+1) l2 i
 a1:h.IsList l1 xs
 a2:h.IsList l2 ys
 z:(IsZip h (N+4) (N+2) (N+3) .none/\∃a b,IsPair h (N+3) a b)∨∃T oT b,sY h (N+4) (N+2) (N+3) T b/\h.get? T=some oT/\N+5<T
def sG{a N:Nat}(h:a<N)(k:Nat):a≠N+k:=by lia
def aFz(u1:l1<N)(u2:l2<N):ZipApart (N+4) (N+2) (N+3) N (N+1) l1 l2:=by
 refine#[?_,?_,?_,?_,?_,?_,?_,?_,?_,?_,sG u1 4,sG u1 3,sG u1 0,sG u1 1,sG u2 4,sG u2 3,sG u2 0,sG u2 1]<;>first|exact Aw ∅|exact Fc ∅
def aD9.keep(x:aD9 h N l1 l2 xs ys i)(u1:l1<N)(u2:l2<N)(k:∀b o,b≠N+5->h.get? b=some o->h'.get? b=some o):aD9 h' N l1 l2 xs ys i:=by
 have n:∀{a b:Nat},a<b->a≠b:=λq=>Aw q;refine#[k _ _ (n ∅) x.ti,x.h1.at λo e=>k _ o (n ∅) e,x.h2.at λo e=>k _ o (n ∅) e,x.a1.at λo e=>k _ o (n ∅) e,x.a2.at λo e=>k _ o (n ∅) e,?_];rcases x.z with ⟨z,a,b,t⟩|⟨T,oT,b,z,t,lt⟩
 ·exact .inl #[k _ _ (n ∅) z,a,b,k _ _ (n ∅) t]
 ·exact .inr #[T,oT,b,k _ _ (n ∅) z,k _ _ (Fc lt) t,lt]
def aS9{x y:Value}(S:aD9 s.heap N l1 l2 xs ys i)(u1:l1<N)(u2:l2<N)(hx:xs[i]? =some x)(hy:ys[i]? =some y)(hN:N+5<#v[0])
  (q:∀h',aD9 h' N l1 l2 xs ys (i+1)->IsPair h' #v[0] x y->h'.objs.size=#v[0]+1->(∀c o,c<N∨N+5<=c->s.heap.get? c=some o->h'.get? c=some o)->Q (some #v[32]) {s with heap:=h'}):
  #v[2] (pyNext (.ref (N+4))) Q E s:=by
 have D:=aFz u1 u2;have ne:∀{c:Nat}(k:Nat),k<5->c<N∨N+5<=c->c≠N+k:=λk hk h e=>by lia
 rcases S.z with ⟨Z,a,b,t⟩|⟨T,oT,b,Z,hT,lt⟩
 ·refine wpAny_pyNext_zip_item D Z S.ti t S.h1 S.h2 S.a1 S.a2 hx hy λh' e1 e2 e3 e4 e5 e6 kp=>?_;refine q h' #[kp _ _ D.TIz D.TITO D.TIi1 D.TIi2 S.ti,e3,e4,S.a1.at λo e=>kp _ o D.l1z D.l1TO D.l1i1 D.l1i2 e,S.a2.at λo e=>kp _ o D.l2z D.l2TO D.l2i1 D.l2i2 e,.inr #[_,_,false,e1,e5,hN]] e5 e6 λc o hc e=>?_;exact kp c o (ne 4 ⋯ hc) (ne 3 ⋯ hc) (ne 0 ⋯ hc) (ne 1 ⋯ hc) e
 ·refine aLz D Z hT S.ti S.h1 S.h2 S.a1 S.a2 hx hy λh' e1 e3 e4 e5 e6 kp=>?_;have hTk:h'.get? T=some oT:=kp T oT (ne 4 ⋯ (.inr (Fd lt))) (ne 0 ⋯ (.inr (Fd lt))) (ne 1 ⋯ (.inr (Fd lt))) hT;refine q h' #[kp _ _ D.TIz D.TIi1 D.TIi2 S.ti,e3,e4,S.a1.at λo e=>kp _ o D.l1z D.l1i1 D.l1i2 e,S.a2.at λo e=>kp _ o D.l2z D.l2i1 D.l2i2 e,.inr #[_,_,true,e1,hTk,lt]] e5 e6 λc o hc e=>?_;exact kp c o (ne 4 ⋯ hc) (ne 0 ⋯ hc) (ne 1 ⋯ hc) e
def aS3(hh:#v[O])(S:aD9 s.heap N l1 l2 xs ys i)(u1:l1<N)(u2:l2<N)(hx:xs[i]? =none)
  (q:∀h',(∀c o,c<N∨N+5<=c->s.heap.get? c=some o->h'.get? c=some o)->Q none {s with heap:=h'}):
  #v[2] (pyNext (.ref (N+4))) Q E s:=by
 have D:=aFz u1 u2;have ne:∀{c:Nat}(k:Nat),k<5->c<N∨N+5<=c->c≠N+k:=λk hk h e=>by lia
 rcases S.z with ⟨Z,a,b,t⟩|⟨T,oT,b,Z,hT,lt⟩
 ·exact wpAny_pyNext_zip_end hh D Z S.ti t S.h1 S.h2 S.a1 S.a2 (.inl hx) λh' kp=>q h' λc o hc e=>kp c o (ne 4 ⋯ hc) (ne 3 ⋯ hc) (ne 0 ⋯ hc) (ne 1 ⋯ hc) e
 ·exact aOz hh D Z hT S.ti S.h1 S.a1 hx λh' kp=>q h' λc o hc e=>kp c o (ne 4 ⋯ hc) (ne 0 ⋯ hc) e
def aOv:typeLookup (.type "zip") "__len__"=pure none:=by rw[Jq,Hn];kernel_rfl
def aMa:typeLookup (.type "zip") "__length_hint__"=pure none:=by rw[Jq,Hn];kernel_rfl
structure yH(h:Heap)(N:Nat)(xs ys:Array Value)(as:List Addr):Prop where
 rise:as.Pairwise (·<·)
 high:∀a∈as,N+5<a
 prs:∀(j:Nat)(a:Addr),as[j]? =some a->∃x y,xs[j]? =some x/\ys[j]? =some y/\IsPair h a x y
def yH.up{N:Nat}(o:yH h N xs ys as)(k:∀c u,N+5<c->h.get? c=some u->h'.get? c=some u):yH h' N xs ys as:=
 #[o.rise,o.high,λj a e=>let⟨x,y,e1,e2,e3⟩:=o.prs j a e;#[x,y,e1,e2,k a _ (o.high a (Ai e)) e3]]
def yH.lt{h:Heap}{N:Nat}(o:yH h N xs ys as){a:Addr}(ha:a∈as):a<h.objs.size:=by
 obtain⟨j,hj⟩:=List.mem_iff_getElem?.mp ha;obtain⟨_,_,_,_,e⟩:=o.prs j a hj;exact Ar e
def yH.more{N n:Nat}{x y:Value}(o:yH h N xs ys as)(k:∀c u,N+5<c->h.get? c=some u->h'.get? c=some u)(hn:h.objs.size=n)(hN:N+5<n)(hx:xs[as.length]? =some x)(hy:ys[as.length]? =some y)(t:IsPair h' n x y):yH h' N xs ys (as++[n]):=by
 refine#[List.pairwise_append.mpr #[o.rise,Kd _ _,λa ha b hb=>?_],λa ha=>?_,λj a e=>?_]
 ·rw[List.mem_singleton.mp hb, <-hn];exact o.lt ha
 ·rcases List.mem_append.mp ha with q|q
  ·exact o.high a q
  ·rw[List.mem_singleton.mp q];exact hN
 ·rcases He j as.length with l|l|l
  ·rw[Di l]at e;exact(o.up k).prs j a e
  ·subst l;have e':n=a:=by simpa using e
   subst e';exact#[x,y,hx,hy,t]
  ·rw[Er (by rw[Al,Dg];lia)]at e;cases e
end
section
variable {prog:Program}{w:World}{A:Around}{s:Shared}{R:Result->Shared->Prop}
def aSf(hh:#v[O])(u1:l1<N)(u2:l2<N)(hlen:xs.size<=ys.size)(hn:xs.size<=sizeLine)(res:Value){h₁:Heap}
  (hR:∀h' tk acc c as,(∀b o,b<N->h₁.get? b=some o->h'.get? b=some o)->h'.get? (N+5)=some {cls:=.type "list",dict:=none,data:=.seq acc c,slots:= (List.toArray [])}->as.length=xs.size->yH h' N xs ys as->acc.toList=as.map Ao->R (.ok (.ret res)) {s with heap:=h',toks:=tk}):
  ∀(k:Nat)(h:Heap)(tk c:Nat)(acc:Array Value)(as:List Addr),as.length+k=xs.size->aD9 h N l1 l2 xs ys as.length->(∀b o,b<N->h₁.get? b=some o->h.get? b=some o)->
   h.get? (N+5)=some {cls:=.type "list",dict:=none,data:=.seq acc c,slots:= (List.toArray [])}->acc.toList=as.map Ao->yH h N xs ys as->
   codeAny #v[70] A (.builtin "list.extend.loop" #[[.ref (N+5),.ref (N+4),res],[]]) R {s with heap:=h,toks:=tk}:=by
 intro k;induction k with
 |zero=>
  intro h tk c acc as hk st kp hS hacc hO;refine Da Nf ?_;rw[Bt Hd _];show wpAny _ A.in1 (pyNext (.ref (N+4))>>=_) _ _ _;refine Aa (aS3 (s:={s with heap:=h,toks:=tk}) (A:=A.in1) hh st u1 u2 (by simp;lia) λh' e=>?_);exact Ac (hR h' tk acc c as (λb o l q=>e b o (.inl l) (kp b o l q)) (e _ _ (.inr (Aj _)) hS) ∅ (hO.up λc u l q=>e c u (.inr (Fd l)) q) hacc)
 |succ k ih=>
  intro h tk c acc as hk st kp hS hacc hO;have sz:acc.size=as.length:=by rw[<-As,hacc,Ab]
  have hN:N+5<h.objs.size:=Ar hS;have hx:xs[as.length]? =some (xs[as.length]'∅):=Bm _;have hy:ys[as.length]? =some (ys[as.length]'∅):=Bm _;refine Da Nf ?_;rw[Bt Hd _];show wpAny _ A.in1 (pyNext (.ref (N+4))>>=_) _ _ _;refine Aa (aS9 (s:={s with heap:=h,toks:=tk}) st u1 u2 hx hy hN λh' st' t z e=>?_);dsimp only at t z e⊢;have hS':=e _ _ (.inr (Aj _)) hS;have up:∀b o,b≠N+5->h'.get? b=some o->(h'.update (N+5) (Dj (·.push (Ao h.objs.size)))).get? b=some o:=λb o hb q=>#v[90].trans q;show wpAny _ A.in1 (updateSeq (N+5) (·.push (Ao h.objs.size))>>=_) _ _ _;refine Aa ?_;refine Fg hS' rfl (Ac #[Ee Hd _,ih _ tk _ (acc.push (Ao h.objs.size)) (as++[h.objs.size]) (by rw[Al,Dg];lia) ?_ (λb o l q=>up b o (Aw ∅) (e b o (.inl l) (kp b o l q))) (Bj _ hS' rfl) (by rw[Rv,hacc,Ca];rfl) ?_]) (by rw[sz];lia) (by show(acc.push (Ao h.objs.size)).size<=sizeLine+1;rw[Array.size_push,sz];lia)
  ·rw[Al,Dg];exact st'.keep u1 u2 up
  ·exact hO.more (λc u l q=>up c u (Fc l) (e c u (.inr (Fd l)) q)) rfl hN hx hy (up _ _ (Fc hN) t)
def aRi(hh:#v[O])(u1:l1<N)(u2:l2<N)(hlen:xs.size<=ys.size)(hn:xs.size<=sizeLine)(res:Value){c₀:Nat}(st:aD9 s.heap N l1 l2 xs ys 0)(hS:s.heap.get? (N+5)=some {cls:=.type "list",data:=.seq (List.toArray []) c₀})
  (hR:∀h' tk acc c as,(∀b o,b<N->s.heap.get? b=some o->h'.get? b=some o)->h'.get? (N+5)=some {cls:=.type "list",dict:=none,data:=.seq acc c,slots:= (List.toArray [])}->as.length=xs.size->yH h' N xs ys as->acc.toList=as.map Ao->R (.ok (.ret res)) {s with heap:=h',toks:=tk}):
  wpAny #v[70] A.in1 (Ea (.ref (N+5)) (.ref (N+4)) res)
   (λfin s'=>match fin with|.done f=>R (.ok f) s'|.again c'=>c'.quiet=true/\codeAny #v[70] A c' R s') (λe s'=>R (.error e) s') s:=by
 have ne54:N+5≠N+4:=by lia
 have ty:s.TypeIs (.ref (N+4)) "zip":=by
  rcases st.z with ⟨z,_⟩|⟨_,_,_,z,_⟩<;>exact#[_,z,rfl]
 have slf:∀Q:#v[7],Q (.ref (N+4)) s->wpAny #v[70] A.in1 (pyIter (.ref (N+4))) Q (λe s'=>R (.error e) s') s:=λQ q=>by
  refine Iq ty Vq (Bl Vq ty F.entry_zip_iter ?_ (F.args_zip_iter_1 _));show wpAny _ _ (ret (.ref (N+4))) _ _ s;exact Ac #[_,rfl,"zip",_,ty,F.slot_zip_next.lookup,q]
 unfold Ea;refine Aa (Hj ty ?_);have q1:Gx (.ref (N+5)) (.ref (N+4))=false:=by simp[Gx]
 have q2:(Ge "zip"==Ge "list")=false:=by decide
 have q3:(Ge "zip"==Ge "tuple")=false:=by decide
 simp only[q1,q2,q3,Va,Cm,if_false];refine Aa (slf _ ?_);refine Aa (Bq ?_);unfold Ll;refine Aa (Eb ty aOv ?_);show wpAny _ A.in1 (specialOf (Ao (N+4)) (Do "__length_hint__")>>=_) _ _ _;refine Aa (Eb ty aMa ?_);refine Ac ?_;show wpAny _ A.in1 (rule "list.extend.makes-room">>=λ_=>Mo (.ref (N+5))>>=λ_=>again (.builtin "list.extend.loop" #[[.ref (N+5),.ref (N+4),res],[]])) _ _ _;refine Aa (Hr ?_);refine Aa ?_;show wpAny _ A.in1 (updateSeq (N+5) (·.push .none)>>=λ_=>updateSeq (N+5) (·.pop)) _ _ _;refine Aa (Fg hS rfl ?_);have hS2:=Bj (Dj (·.push Bn)) hS rfl;refine Fg (hz:=by seq_fits) hS2 rfl ?_;have hS3:=Bj (Dj (·.pop)) hS2 rfl;have up:∀b o,b≠N+5->s.heap.get? b=some o->((s.heap.update (N+5) (Dj (·.push Bn))).update (N+5) (Dj (·.pop))).get? b=some o:=λb o hb e=>#v[90].trans (#v[90].trans e);refine Ac #[Ee Hd _,?_];exact aSf (s:=s) (h₁:=s.heap) hh u1 u2 hlen hn res hR xs.size _ s.toks _ (List.toArray []) [] (Ij _) (st.keep u1 u2 up) (λb o l e=>up b o (Aw ∅) e) hS3 rfl #[.nil,(λ_ h=>nomatch h),(λj a e=>by simp at e)]
def aSz{Q:#v[7]}(hh:#v[O])(u1:l1<N)(u2:l2<N)(hlen:xs.size<=ys.size)(hn:xs.size<=sizeLine)(st:aD9 s.heap N l1 l2 xs ys 0)(hsz:#v[0]=N+5)
  (q:∀h' tk acc c as,(∀b o,b<N->s.heap.get? b=some o->h'.get? b=some o)->h'.get? (N+5)=some {cls:=.type "list",dict:=none,data:=.seq acc c,slots:= (List.toArray [])}->as.length=xs.size->yH h' N xs ys as->acc.toList=as.map Ao->Q (.ref (N+5)) {s with heap:=h',toks:=tk}):
  #v[2] (call (.type "list") [.ref (N+4)]) Q E s:=by
 refine Qi (Q₁:=λobj s₁=>obj=.ref #v[0]/\s₁={s with heap:=s.heap.push {cls:=.type "list",data:=.seq (List.toArray [])}}) PySem.F.called_list (PySem.F.typeCall_list_1 _) PySem.F.entry_list_init (code_list_new _ #[rfl,rfl]) λobj s₁ h₁=>?_;obtain⟨rfl,rfl⟩:=h₁;have hS:(s.heap.push {cls:=.type "list",data:=.seq (List.toArray [])}).get? #v[0]=some {cls:=.type "list",data:=.seq (List.toArray [])}:=Ap _ rfl;refine#[#[_,hS,rfl],PySem.F.args_list_init_2 _ _,?_];rw[hsz]at hS⊢;show wpAny _ _ (do let old<-Mp (.ref (N+5));Wu (.ref (N+5)) (λ_=> (List.toArray []));letGo old.toList.reverse;Ea (.ref (N+5)) (.ref (N+4)) .none) _ _ _;refine Aa ?_;unfold Mp;refine Aa (Cp hS rfl (Ac ?_));show wpAny _ _ (updateSeq (N+5) (λ_=> (List.toArray []))>>=λ_=>letGo ((List.toArray []):Array Value).toList.reverse>>=λ_=>Ea (.ref (N+5)) (.ref (N+4)) .none) _ _ _;refine Aa (Fg hS rfl ?_);have hS2:=Bj (Dj (λ_=>((List.toArray []):Array Value))) hS rfl;have up:∀b o,b≠N+5->s.heap.get? b=some o->((s.heap.push {cls:=.type "list",data:=.seq (List.toArray [])}).update (N+5) (Dj (λ_=>((List.toArray []):Array Value)))).get? b=some o:=λb o hb e=>#v[90].trans (Ae _ e);refine Aa (Jp ?_);refine aRi (A:=A.in1) hh u1 u2 hlen hn .none (st.keep u1 u2 up) hS2 λh' tk acc c as kp hS' hl hO hacc=>?_;exact#[rfl,q h' tk acc c as (λb o l e=>kp b o l (up b o (Aw ∅) e)) hS' hl hO hacc]
end
def aQc{pins:#v[8]}{σ:St}{h':Heap}(I:#v[4])(k:∀b u,s.heap.get? b=some u->h'.get? b=some u)(ex:∀c o,H c=some o->H' c=some o)(lo:∀c,c<#v[0]->H' c=H c)
  (new:∀c o,H c=none->H' c=some o->bO X.prog X.w H' h' c o):Inv X pins σ H' {s with heap:=h',toks:=t'}:=by
 refine I.un #[λb ob q _ _ _=>k b ob q,λb ob q _ _ _=>#[ob.slots,k b ob q],λb ob q n _=>by rw[lo b (Ar q)];exact n,λb ob q _=>#[ob,k b ob q],λb xs q=>ex b _ q,λb o u q=>ex b _ q,λb ps q=>#[(List.toArray []),by rw[ex b _ q];simp]] λc o e=>?_;cases g:H c with
 |none=>exact new c o g e
 |some o'=>
  have:=ex c o' g;rw[e]at this;cases this;exact(I.hok c o g).stay (λb u _ q=>k b u q) (λb q=>ex b _ q) λb xs q=>ex b _ q
structure aV2(H:Hp)(l:Addr)(xs ys:List V)(H':Hp)(as:List Addr):Prop where
 len:as.length=xs.length
 nd:as.Nodup
 fresh:∀a∈as,H a=none/\a≠l
 lf:H l=none
 lst:H' l=some (.lst (as.map V.ref))
 prs:∀(j:Nat)(a:Addr)(x y:V),as[j]? =some a->xs[j]? =some x->ys[j]? =some y->H' a=some (.tup [x,y])
 same:∀c,c≠l->c∉as->H' c=H c
def aO5(K:Ad)(ta:TA):TE:=λσ H Q=>ta σ H λvs H1=>∃a b xs ys,vs=[.ref a,.ref b]/\SqL K H1 a xs/\SqL K H1 b ys/\xs.length<=ys.length/\∀l H' as,aV2 H1 l xs ys H' as->Q (.ref l) H'
theorem aF9:∀as:List Addr,Vals (as.map V.ref) (as.map Ao)
 | []=> .nil
 |a::r=> .cons rfl (aF9 r)
def aEx{as:List Addr}(nd:as.Nodup){j:Nat}{a:Addr}(e:as[j]? =some a):as.idxOf a=j:=by
 obtain⟨h1,h2⟩:=List.getElem?_eq_some_iff.mp e;have h3:as.idxOf a<as.length:=List.idxOf_lt_length_iff.mpr (Ai e);have h4:as[as.idxOf a]=a:=List.getElem_idxOf h3;exact(Io nd).mp (h4.trans h2.symm)
def aDp(H:Hp)(l:Addr)(xs ys:List V)(as:List Addr):Hp:=λc=>if c=l then some (.lst (as.map V.ref))else if c∈as then some (.tup [xs.getD (as.idxOf c) (V.int 0),ys.getD (as.idxOf c) (V.int 0)])else H c
def aIf{a b:Expr}{p p2 pos pos2:Pos}(hcalm:X.calm=true)(hg:Gl X "list")(hm:X.mg "list"=none)(hg2:Gl X "zip")(hm2:X.mg "zip"=none)(ha:PA X [a,b] ta)(hs:#v[h]:=by rfl)(hs2:#v[I]:=by rfl)
  (he:#v[67]:=by rfl):
  PE X (.Call (.Name "list" p) [.Call (.Name "zip" p2) [a,b] [] pos2] [] pos) (aO5 X.K ta):=by
 intro pins s σ H Q I h;refine Fs (oU I hg hm (show bootBuiltins "list"=some (.type "list") by decide+kernel) ?_);refine Dk ?_ he rfl;rw[he];show wpAny _ _ (spliced [(false,eval (.Call (.Name "zip" p2) [a,b] [] pos2) X.env)]) _ _ s;refine Rc ?_;refine Fs (oU I hg2 hm2 (show bootBuiltins "zip"=some (.type "zip") by decide+kernel) ?_);refine Dk (thn (ha pos2 pins s σ H _ I h) λus s1 ⟨vs,H1,I1,r1,q1⟩=>?_) (by rw[hs,hs2]) (by rw[hs2];rfl);obtain⟨a1,b1,xs,ys,e,hq1,hq2,hlen,q⟩:=q1;subst e;obtain⟨u,w',rfl,ru,rw'⟩:=vals2 r1;cases ru;cases rw';obtain⟨its1,rv1,p1,z1⟩:=I1.list hq1;obtain⟨its2,rv2,p2',z2⟩:=I1.list hq2;have n1:=rv1.length;have n2:=rv2.length;have la:a1<s1.heap.objs.size:=by obtain⟨o,e,_⟩:=p1.isList;exact Ar e
 have lb:b1<s1.heap.objs.size:=by obtain⟨o,e,_⟩:=p2'.isList;exact Ar e
 refine call_zip_2 p1.isList p2'.isList λg hz hTI hTO hi1 hi2 hsz kp=>?_;refine Ru ?_;refine aSz (I1.ok.hd hcalm) la lb (by simp;lia) (by simp;lia) #[hTI,hi1,hi2,p1.isList.at λo e=>kp _ o e,p2'.isList.at λo e=>kp _ o e,.inl #[hz,_,_,hTO]] hsz λh' tk acc c as kp' hS hl hO hacc=>?_;have big:∀a∈as,s1.heap.objs.size<=a:=λa m=>by
  have:=hO.high a m;exact Ci (Co _ 5) (Fd this)
 have nd:as.Nodup:=hO.rise.imp λh=>Aw h;have hl':as.length=xs.length:=by rw[hl];simp;lia
 have nl:s1.heap.objs.size+5∉as:=λm=>absurd (hO.high _ m) (Dp _);have fr:∀a,s1.heap.objs.size<=a->H1 a=none:=λa m=>I1.hok.fresh m;refine#[.ref (s1.heap.objs.size+5),aDp H1 (s1.heap.objs.size+5) xs ys as,?_,rfl,q _ _ as #[hl',nd,λa m=>#[fr a (big a m),λe=>nl (e▸m)],fr _ (Co _ _),by simp[aDp],λj a x y e1 e2 e3=>?_,λc c1 c2=>by simp[aDp,c1,c2]]]
 ·refine aQc (s:=s1) (h':=h') (t':=tk) I1 (λb u e=>kp' b u (Ar e) (kp b u e)) (λc o e=>?_) (λc l=>?_) λc o e1 e2=>?_
  ·have c1:c≠s1.heap.objs.size+5:=λz=>by rw[z,fr _ (Co _ _)]at e;cases e
   have c2:c∉as:=λm=>by rw[fr c (big c m)]at e;cases e
   simp[aDp,c1,c2,e]
  ·have c1:c≠s1.heap.objs.size+5:=Aw (Be l (Co _ _));have c2:c∉as:=λm=>absurd (Be l (big c m)) (Dp _);simp[aDp,c1,c2]
  ·by_cases c1:c=s1.heap.objs.size+5
   ·subst c1;simp[aDp]at e2;subst e2;refine#[by rw[Ab];lia,acc.toList,c,?_,by simpa using hS];rw[hacc];exact aF9 as
   ·by_cases c2:c∈as
    ·simp[aDp,c1,c2]at e2;subst e2;obtain⟨j,hj⟩:=List.mem_iff_getElem?.mp c2;have hjl:j<as.length:=(List.getElem?_eq_some_iff.mp hj).1;obtain⟨u,v,e3,e4,e5⟩:=hO.prs j c hj;rw[aEx nd hj];obtain⟨u',f1,f2⟩:=rv1.get (show xs[j]? =some (xs.getD j (V.int 0)) by simp[show j<xs.length by lia]);obtain⟨v',f3,f4⟩:=rv2.get (show ys[j]? =some (ys.getD j (V.int 0)) by simp[show j<ys.length by lia]);have g1:u'=u:=by simpa[f1]using e3
     have g2:v'=v:=by simpa[f3]using e4
     subst g1 g2;exact#[show 2<=sizeLine by decide,[u',v'],.cons f2 (.cons f4 .nil),#[_,e5,rfl,_,rfl]]
    ·simp[aDp,c1,c2,e1]at e2
 ·have m:=Ai e1;have c1:a≠s1.heap.objs.size+5:=λz=>nl (z▸m);simp[aDp,c1,m,aEx nd e1,e2,e3]
section
variable {prog:Program}{w:World}{A:Around}{g:Bool}{num:Nat->Int}
def aIy(g:Bool)(x d:Value):argsOk (cond g "max" "min") #[[x],[(Do "default",d)]]:=by
 cases g<;>(unfold argsOk;kernel_rfl)
def bt(g:Bool)(num:Nat->Int)(i j:Nat):Bool:=cond g (decide (num i>num j)) (decide (num i<num j))
def aX9{i j t:Nat}:bt g num j i=true->bt g num t i=false->bt g num t j=false:=by cases g<;>simp[bt]<;>lia
def aQe{i j t:Nat}(h:t<j+1)(a:bt g num j i=false)(b:t<j->bt g num t i=false):bt g num t i=false:=by
 by_cases e:t<j
 ·exact b e
 ·rw[show t=j by lia];exact a
def aJy(i:Nat):bt g num i i=false:=by cases g<;>simp[bt]
def aZ5(g:Bool)(num:Nat->Int)(P:Nat->Value->Prop)(j:Nat):Option (Nat×Value)->Prop
 |none=>j=0
 |some (i,v)=>i<j/\P i v/\∀t,t<j->bt g num t i=false
def aRu(o:Option (Nat×Value)):Array Value:=match o with
 |none=> (List.toArray [])
 |some (_,v)=> (List.toArray [v,v])
def aP8:∀g:Bool,plainId (cond g "max.loop" "min.loop")=true:=by
 intro g;cases g
 ·exact Of
 ·exact Og
def aP4{It Bx:Addr}{fp wr:List Addr}{n:Nat}{P:Nat->Value->Prop}{St:Nat->Heap->Prop}{R:Result->Shared->Prop}{d:Value}(W:Walks prog w A.in1 It fp wr n P St)(cm:CmpOf prog w A.in1 (cond g .Gt .Lt) P (bt g num))(apart:Bx∉fp):
  ∀(k j:Nat)(s:Shared)(o:Option (Nat×Value))(c:Nat),n=j+k->St j s.heap->aZ5 g num P j o->s.heap.get? Bx=some {cls:=.type "list",dict:=none,data:=.seq (aRu o) c,slots:= (List.toArray [])}->
   (∀v h' tk,(n=0/\v=d∨∃o',o'=some v/\∃i,aZ5 g num P n (some (i,v)))->(∀b ob,b∉wr->b≠Bx->s.heap.get? b=some ob->h'.get? b=some ob)->R (.ok (.ret v)) {s with heap:=h',toks:=tk})->
   codeAny #v[70] A (.builtin (cond g "max.loop" "min.loop") #[[.ref It,.none,.ref Bx],[("default",d)]]) R s:=by
 intro k;induction k with
 |zero=>
  intro j s o c en at_ top hS fin;have outw:Bx∉wr:=λz=>apart (W.sub _ z);cases en;cases g
  all_goals dsimp only[cond]at*
  case' false=>
   refine Da Uw ?_;rw[Bt Of _]
  case' true=>
   refine Da Ux ?_;rw[Bt Og _]
  all_goals
   show wpAny _ A.in1 (seqItems? (.ref Bx)>>=_) _ _ s;refine Aa (Cp hS rfl ?_);show wpAny _ A.in1 (tryCatch (pyNext (.ref It)) _>>=_) _ _ s;refine Aa (Mi (W.done s _ _ at_ λh' tk kept=>?_));have hS2:=kept Bx _ outw hS;cases o with
   |none=>
    have z:j=0:=top;show wpAny _ A.in1 (rule _>>=_) _ _ _;exact Aa (Hr (Ac (fin d h' tk (.inl #[z,rfl]) λb ob h1 _ h3=>kept b ob h1 h3)))
   |some q=>
    show wpAny _ A.in1 (updateSeq Bx (λ_=> (List.toArray []))>>=_) _ _ _;refine Aa (Fg (hz:=by show 2<=sizeLine;decide) hS2 rfl (Aa (Jp (Ac (fin q.2 _ tk (.inr #[_,rfl,q.1,top]) λb ob h1 h2 h3=>?_)))));exact(By _ _ (Cg h2)).trans (kept b ob h1 h3)
 |succ k ih=>
  intro j s o c en at_ top hS fin;have outw:Bx∉wr:=λz=>apart (W.sub _ z);have more:j<n:=by lia
  have nm:(toString "max"++toString ".loop":String)="max.loop"/\(toString "min"++toString ".loop":String)="min.loop":=by decide
  have qt:=aP8 g;cases g
  all_goals dsimp only[cond]at*
  case' false=>
   refine Da Uw ?_;rw[Bt Of _]
  case' true=>
   refine Da Ux ?_;rw[Bt Og _]
  all_goals
   show wpAny _ A.in1 (seqItems? (.ref Bx)>>=_) _ _ s;refine Aa (Cp hS rfl ?_);show wpAny _ A.in1 (tryCatch (pyNext (.ref It)) _>>=_) _ _ s;refine Aa (Mi (W.item j s _ _ more at_ λv h' tk pv at2 kept=>?_));have hS2:=kept Bx _ outw hS;have step:=λ(o2:Option (Nat×Value))(c2:Nat)(h2:Heap)(t2:Nat) top2 hS3(k2:∀b ob,b≠Bx->h'.get? b=some ob->h2.get? b=some ob)=>ih (j+1) {s with heap:=h2,toks:=t2} o2 c2 ∅ (W.frame _ _ _ at2 λb hb ob e=>k2 b ob (λz=>apart (z▸hb)) e) top2 hS3 λv3 h3 t3 r3 k3=>fin v3 h3 t3 r3 λb ob a1 a2 a3=>k3 b ob a1 a2 (k2 b ob a2 (kept b ob a1 a3));cases o with
   |none=>
    have z:j=0:=top;subst z;show wpAny _ A.in1 (updateSeq Bx (λ_=> (List.toArray [v,v]))>>=_) _ _ _;refine Aa (Fg hS2 rfl ?_);simp only[nm];refine Ac #[Ee qt _,step (some (0,v)) _ _ _ #[Nat.one_pos,pv,λt ht=>?_] (Bj _ hS2 rfl) λb ob hb e=>#v[90].trans e];obtain rfl:t=0:=by lia
    exact aJy _
   |some q=>
    obtain⟨i,vb⟩:=q;obtain⟨hi,pb,best⟩:=top;show wpAny _ A.in1 (tryCatch (holding [v,v] (richCompare _ v vb>>=_)) _>>=_) _ _ _;refine Aa (Mi (Bq (Aa (cm j i v vb _ _ _ pv pb ?_))));refine Aa (Bq (Dl (Aa (Jp (Ac ?_)))));dsimp only;split<;>rename_i hb
    ·refine Aa (Fg (hz:=by show 2<=sizeLine;decide) hS2 rfl (Aa (Jp ?_)));simp only[nm];exact Ac #[Ee qt _,step (some (j,v)) _ _ _ #[Fj j,pv,λt ht=>aQe ht (aJy _) λh=>aX9 hb (best t h)] (Bj _ hS2 rfl) λb ob hb e=>#v[90].trans e]
    ·refine Aa (Jp ?_);simp only[nm];exact Ac #[Ee qt _,step (some (i,vb)) _ _ _ #[∅,pb,λt ht=>aQe ht (Bool.eq_false_iff.mpr hb) (best t)] hS2 λb ob _ e=>e]
end
def aPp(X:Cx)(f:Value)(ks:List Str)(r:List V->List V->Hp->VK->Prop):Prop:=
 ∀(pins:#v[8])(s:Shared)(σ:St)(H:Hp)(xs ys:List V)(us ws:List Value)(Q:VK),#v[4]->Vals xs us->Vals ys ws->r xs ys H Q->#v[6] (call f us (ks.zip ws)) #v[21] X.xe s
def bBj(r:List V->List V->Hp->VK->Prop)(t tk:TA):TE:=λσ H Q=>t σ H λxs H1=>tk σ H1 λys H2=>r xs ys H2 Q
def aCe{X:Cx}{x:Str}{id:String}{ks:List Str}{r:List V->List V->Hp->VK->Prop}{e:Expr}{es:List Expr}{kws:List Keyword}{t tk:TA}{p pos:Pos}(hc:aPp X (.builtin id) ks r)(hg:Gl X x)(hm:X.mg x=none)(hv:bootBuiltins x=some (.builtin id))(ha:PA X (e::es) t)(hkw:PK X kws tk)
  (hall:#v[29].all (·.1.isSome)=true:=by rfl) (hks:#v[29].filterMap (·.1)=ks:=by rfl) (hn:x≠"__name__":=by decide) (hdb:ND x:=by decide)
  (he:SE X e es:=by rfl) (hpl:(backTo pos (starEach (e::es) X.env)).any (·.1)=false:=by rfl) (hpk:#v[29].any (·.1.isNone)=false:=by rfl):PE X (.Call (.Name x p) (e::es) kws pos) (bBj r t tk):=by
 intro pins s σ H Q I h;refine Fs (oU I hg hm hv ?_ hn hdb);refine Wh (thn #v[P] λus s1 ⟨vs,H1,I1,r1,q1⟩=>?_) (by rw[he];rfl) hpl hall hpk;refine thn (hkw pos pins s1 σ H1 _ I1 q1) λws s2 ⟨zs,H2,I2,rz,q2⟩=>?_;rw[hks];exact hc pins s2 σ H2 vs zs us ws Q I2 r1 rz q2
inductive aZo(g:Bool)(K:Ad)(xs:List V)(ys:List V)(H:Hp)(Q:VK):Prop
 |mk (p ns d:_) (q0_:xs=[.ref p]) (q1_:ys=[d]) (q2_:SqL K H p #v[M]) (q3_:(ns=[]->Q d H)) (q4_:∀m:Int,m∈ns->(∀a∈ns,cond g (a<=m) (m<=a))->Q (.int m) H):aZo g K xs ys H Q
def rMD(g:Bool)(K:Ad):List V->List V->Hp->VK->Prop:=λxs ys H Q=>aZo g K xs ys H Q
def aJl{X:Cx}{g:Bool}(hc:X.calm=true):aPp X (.builtin (cond g "max" "min")) ["default"] (rMD g X.K):=by
 intro pins s σ H xs ys us ws Q I r rk h;obtain⟨p,ns,d,rfl,rfl,hq,q0,q1⟩:=h;obtain⟨u,rfl,ru⟩:=vals1 r;obtain⟨dv,rfl,rd⟩:=vals1 rk;cases ru;obtain⟨its,rv,pl,hz⟩:=I.list hq;have hi:IntsAre its ns:=intsAre_of rv;obtain⟨ys,e⟩:=hi.allInts.items;have hns:ns=ys.toList.map (·.1):=by rw[<-hi.numsOf, <-Rh, <-e]
 have hl:=pl.isList;rw[e]at hl;have nm:(toString "max"++toString ".loop":String)="max.loop"/\(toString "min"++toString ".loop":String)="min.loop":=by decide
 have qt:=aP8 g;have bd:∀nm:String,Ia nm ["key","default"] 0 #[[],[(Do "default",dv)]]=pure [none,some dv]:=λnm=>rfl;have tn:=@aP4 X.prog X.w X.A g (numAt ys);have cm:CmpOf X.prog X.w X.A.in1 (cond g .Gt .Lt) (λi v=>(intItems ys)[i]? =some v) (bt g (numAt ys)):=by
  cases g
  ·exact CmpOf.ints_lt _ λ_ _=>Pt
  ·exact CmpOf.ints_gt _ λ_ _=>Pt
 cases g
 all_goals dsimp only[cond]at*
 case' false=>
  refine kmb_tree F.kind_min F.plain_min F.entry_min (aIy false _ _) ?_;show wpAny _ X.A.in1 (Ia "min" ["key","default"] 0 #[[],[(Do "default",dv)]]>>=_) _ _ s
 case' true=>
  refine kmb_tree F.kind_max F.plain_max F.entry_max (aIy true _ _) ?_;show wpAny _ X.A.in1 (Ia "max" ["key","default"] 0 #[[],[(Do "default",dv)]]>>=_) _ _ s
 all_goals
  refine Aa (Kv (bd _) (Aa (Ac ?_)));refine Aa (iter_intList hl λs₂ es st hfp hlI=>?_);refine Aa (Bp ?_);have apart:s₂.heap.objs.size∉[#v[0],p]:=λz=>Dp _ (hfp _ z);simp only[nm];have W:=Oj (prog:=X.prog) (w:=X.w) (A:=X.A.in1) #v[58] #v[0] p hlI (intItems ys);refine Ac #[Ee qt _,tn W cm apart _ 0 _ none _ (by rw[Ij]) (W.frame _ _ _ st λb _ o eb=>Ae _ eb) rfl (Ap _ rfl) λv h' tk res kept=>?_];subst es;have old:∀b o,s.heap.get? b=some o->h'.get? b=some o:=λb o eb=>by
   have lt:=Ar eb;refine kept b o (λz=>?_) (λz=>?_) (Ae _ (Ae _ eb))
   ·have z':=List.mem_singleton.mp z;exact absurd lt (by rw[z'];exact Dp _)
   ·rw[Ck]at z;exact absurd lt (by rw[z];exact Nat.not_lt.mpr (Gd _))
  rcases res with ⟨n0,rfl⟩|⟨_,_,i,hin,pv,best⟩
  ·refine#[d,H,I.kept (t':=tk) old,rd,q0 ?_];rw[hns];have:ys.size=0:=by simpa[intItems]using n0
   rw[List.map_eq_nil_iff, <-As]at*;exact List.eq_nil_of_length_eq_zero (by rw[As];exact this)
  ·obtain⟨t,rfl⟩:=Pt (by simpa[intItems]using pv);have hin':i<ys.size:=by simpa[intItems]using hin
   refine#[.int _,H,I.kept (t':=tk) old,#[t,rfl],q1 _ ?_ λa ha=>?_]
   ·rw[hns,Ri];exact getD_mem (by rw[Ab,As];lia)
   ·rw[hns]at ha;obtain⟨j,hj,rfl⟩:=mem_getD ha;rw[Ab,As]at hj;have:=best j (by simpa[intItems]using hj);rw[<-Ri];simpa[bt]using this
inductive D where
 |fl (x:V)
 |tp (l:List D)
 |ls (l:List D)
mutual
def Den(K:Ad)(H:Hp):D->V->Prop
 |.fl x,v=>v=x/\rD x=true
 |.tp l,v=>∃a xs,v=.ref a/\SqT K H a xs/\xJ K H l xs
 |.ls l,v=>∃a xs,v=.ref a/\SqL K H a xs/\xJ K H l xs
def xJ(K:Ad)(H:Hp):List D->List V->Prop
 | [],xs=>xs=[]
 |d::l,xs=>∃x r,xs=x::r/\Den K H d x/\xJ K H l r
end
mutual
def D.eq:D->D->Bool
 |.fl x,.fl y=>eqV x y
 |.tp l,.tp m=>D.eqs l m
 |.ls l,.ls m=>D.eqs l m
 |_,_=>false
def D.eqs:List D->List D->Bool
 | [],[]=>true
 |x::l,y::m=>D.eq x y && D.eqs l m
 |_,_=>false
end
mutual
def D.dep:D->Nat
 |.fl _=>0
 |.tp l=>D.deps l+1
 |.ls l=>D.deps l+1
def D.deps:List D->Nat
 | []=>0
 |x::l=>max (D.dep x) (D.deps l)
end
section
variable {X:Cx}{pins:#v[8]}{σ:St}{H:Hp}{s:Shared}
def Inv.not_both{a:Addr}{xs ys:List V}(I:#v[4])(h:SqL X.K H a xs)(h':SqT X.K H a ys):False:=by
 obtain⟨its,r1,p1,_⟩:=I.list h;obtain⟨its2,r2,p2,_⟩:=I.tuple h';obtain⟨o,ho,hc,_⟩:=p1.isList;obtain⟨o2,ho2,hc2,_⟩:=p2;rw[ho]at ho2;cases ho2;rw[hc]at hc2;simp at hc2
mutual
theorem aA2(I:#v[4]):∀(d e:D){v:V},Den X.K H d v->Den X.K H e v->d.eq e=true
 |.fl x,.fl y,v,h,h'=>by
  obtain⟨rfl,f⟩:=h;obtain⟨rfl,_⟩:=h';rw[D.eq];exact aFl f
 |.fl x,.tp m,v,h,h'=>by
  obtain⟨rfl,f⟩:=h;obtain⟨a,xs,rfl,_⟩:=h';exact(An f).elim
 |.fl x,.ls m,v,h,h'=>by
  obtain⟨rfl,f⟩:=h;obtain⟨a,xs,rfl,_⟩:=h';exact(An f).elim
 |.tp l,.fl x,v,h',h=>by
  obtain⟨rfl,f⟩:=h;obtain⟨a,xs,rfl,_⟩:=h';exact(An f).elim
 |.ls l,.fl x,v,h',h=>by
  obtain⟨rfl,f⟩:=h;obtain⟨a,xs,rfl,_⟩:=h';exact(An f).elim
 |.tp l,.tp m,v,h,h'=>by
  obtain⟨a,xs,rfl,h1,h2⟩:=h;obtain⟨b,ys,e,h3,h4⟩:=h';cases e;rw[I.tuple_inj h3 h1]at h4;rw[D.eq];exact wU I l m h2 h4
 |.ls l,.ls m,v,h,h'=>by
  obtain⟨a,xs,rfl,h1,h2⟩:=h;obtain⟨b,ys,e,h3,h4⟩:=h';cases e;rw[I.list_inj h3 h1]at h4;rw[D.eq];exact wU I l m h2 h4
 |.tp l,.ls m,v,h,h'=>by
  obtain⟨a,xs,rfl,h1,h2⟩:=h;obtain⟨b,ys,e,h3,h4⟩:=h';cases e;exact(I.not_both h3 h1).elim
 |.ls l,.tp m,v,h,h'=>by
  obtain⟨a,xs,rfl,h1,h2⟩:=h;obtain⟨b,ys,e,h3,h4⟩:=h';cases e;exact(I.not_both h1 h3).elim
theorem wU(I:#v[4]):∀(l m:List D){xs:List V},xJ X.K H l xs->xJ X.K H m xs->D.eqs l m=true
 | [],[],xs,h,h'=>by rw[D.eqs]
 | [],_::_,xs,h,h'=>by
  obtain⟨x,r,rfl,_⟩:=h';cases (show(x::r)=[]from h)
 |_::_,[],xs,h',h=>by
  obtain⟨x,r,rfl,_⟩:=h';cases (show(x::r)=[]from h)
 |d::l,e::m,xs,h,h'=>by
  obtain⟨x,r,rfl,h1,h2⟩:=h;obtain⟨y,r',q,h3,h4⟩:=h';cases q;rw[D.eqs,aA2 I d e h1 h3,wU I l m h2 h4];rfl
end
mutual
theorem aP2(I:#v[4]):∀(d e:D){v v':V}{u u':Value}{A:Around},RelV v u->RelV v' u'->Den X.K H d v->Den X.K H e v'->A.units+d.dep+e.dep<cLine->Ko A s u u' (d.eq e)
 |.fl x,.fl y,v,v',u,u',A,r,r',h,h',hu=>by
  obtain⟨rfl,f⟩:=h;obtain⟨rfl,f'⟩:=h';rw[D.eq];exact aVp r r' f f'
 |.fl x,.tp m,v,v',u,u',A,r,r',h,h',hu=>by
  obtain⟨rfl,f⟩:=h;obtain⟨a,xs,rfl,hb,_⟩:=h';cases r';obtain⟨its2,r2,p2,_⟩:=I.tuple hb;rw[show D.eq (.fl v) (.tp m)=false by simp[D.eq]];have hu':A.units<cLine:=by lia
  cases v with
  |non=>cases r;exact SeqAt.EqAt.none_tuple p2 hu'
  |bl c=>cases r;exact SeqAt.EqAt.bool_tuple c p2 hu'
  |int c=>obtain⟨t,rfl⟩:=r;exact SeqAt.EqAt.int_tuple c t p2 hu'
  |str c=>obtain⟨t,rfl⟩:=r;exact SeqAt.EqAt.str_tuple c t p2 hu'
  |_=>exact(An f).elim
 |.fl x,.ls m,v,v',u,u',A,r,r',h,h',hu=>by
  obtain⟨rfl,f⟩:=h;obtain⟨a,xs,rfl,hb,_⟩:=h';cases r';obtain⟨its2,r2,p2,_⟩:=I.list hb;rw[show D.eq (.fl v) (.ls m)=false by simp[D.eq]];have hu':A.units<cLine:=by lia
  cases v with
  |non=>cases r;exact SeqAt.EqAt.none_list p2.isList hu'
  |bl c=>cases r;exact SeqAt.EqAt.bool_list c p2.isList hu'
  |int c=>obtain⟨t,rfl⟩:=r;exact SeqAt.EqAt.int_list c t p2.isList hu'
  |str c=>obtain⟨t,rfl⟩:=r;exact SeqAt.EqAt.str_list c t p2.isList hu'
  |_=>exact(An f).elim
 |.tp l,.fl x,v',v,u',u,A,r',r,h',h,hu=>by
  obtain⟨rfl,f⟩:=h;obtain⟨a,xs,rfl,hb,_⟩:=h';cases r';obtain⟨its2,r2,p2,_⟩:=I.tuple hb;rw[show D.eq (.tp l) (.fl v)=false by simp[D.eq]];have hu':A.units<cLine:=by lia
  cases v with
  |non=>cases r;exact SeqAt.EqAt.tuple_none p2 hu'
  |bl c=>cases r;exact SeqAt.EqAt.tuple_bool c p2 hu'
  |int c=>obtain⟨t,rfl⟩:=r;exact SeqAt.EqAt.tuple_int c t p2 hu'
  |str c=>obtain⟨t,rfl⟩:=r;exact SeqAt.EqAt.tuple_str c t p2 hu'
  |_=>exact(An f).elim
 |.ls l,.fl x,v',v,u',u,A,r',r,h',h,hu=>by
  obtain⟨rfl,f⟩:=h;obtain⟨a,xs,rfl,hb,_⟩:=h';cases r';obtain⟨its2,r2,p2,_⟩:=I.list hb;rw[show D.eq (.ls l) (.fl v)=false by simp[D.eq]];have hu':A.units<cLine:=by lia
  cases v with
  |non=>cases r;exact SeqAt.EqAt.list_none p2.isList hu'
  |bl c=>cases r;exact SeqAt.EqAt.list_bool c p2.isList hu'
  |int c=>obtain⟨t,rfl⟩:=r;exact SeqAt.EqAt.list_int c t p2.isList hu'
  |str c=>obtain⟨t,rfl⟩:=r;exact SeqAt.EqAt.list_str c t p2.isList hu'
  |_=>exact(An f).elim
 |.tp l,.ls m,v,v',u,u',A,r,r',h,h',hu=>by
  obtain⟨a,xs,rfl,h1,_⟩:=h;obtain⟨b,ys,rfl,h3,_⟩:=h';cases r;cases r';obtain⟨its,r1,p1,_⟩:=I.tuple h1;obtain⟨its2,r2,p2,_⟩:=I.list h3;rw[show D.eq (.tp l) (.ls m)=false by simp[D.eq]];exact SeqAt.EqAt.tuple_list p1 p2.isList ∅
 |.ls l,.tp m,v,v',u,u',A,r,r',h,h',hu=>by
  obtain⟨a,xs,rfl,h1,_⟩:=h;obtain⟨b,ys,rfl,h3,_⟩:=h';cases r;cases r';obtain⟨its,r1,p1,_⟩:=I.list h1;obtain⟨its2,r2,p2,_⟩:=I.tuple h3;rw[show D.eq (.ls l) (.tp m)=false by simp[D.eq]];exact SeqAt.EqAt.list_tuple p1.isList p2 ∅
 |.tp l,.tp m,v,v',u,u',A,r,r',h,h',hu=>by
  by_cases hab:v=v'
  ·subst hab;rw[aA2 I _ _ h h'];rw[show u'=u from by obtain⟨a,xs,rfl,_⟩:=h;cases r;cases r';rfl];exact Lx _
  ·obtain⟨a,xs,rfl,h1,h2⟩:=h;obtain⟨b,ys,rfl,h3,h4⟩:=h';cases r;cases r';obtain⟨its,r1,p1,_⟩:=I.tuple h1;obtain⟨its2,r2,p2,_⟩:=I.tuple h3;rw[D.dep,D.dep]at hu;obtain⟨e,he,ee⟩:=vN (A:=A.in1) I l m r1 r2 h2 h4 (by show A.units+1+_+_<_;lia);have key:=Ph (A:=A) (s:=s) (l:=a) (b:=b) (items:=its.toArray) (items2:=its2.toArray) (e:=e) p1 p2 ∅ (λj g1 g2=>by
    have:=he j (by simpa using g1) (by simpa using g2);simpa using this)
   rw[Ak,Ak,ee]at key;rw[D.eq];exact Ow (λz=>hab (by rw[z])) key
 |.ls l,.ls m,v,v',u,u',A,r,r',h,h',hu=>by
  by_cases hab:v=v'
  ·subst hab;rw[aA2 I _ _ h h'];rw[show u'=u from by obtain⟨a,xs,rfl,_⟩:=h;cases r;cases r';rfl];exact Lx _
  ·obtain⟨a,xs,rfl,h1,h2⟩:=h;obtain⟨b,ys,rfl,h3,h4⟩:=h';cases r;cases r';obtain⟨its,r1,p1,_⟩:=I.list h1;obtain⟨its2,r2,p2,_⟩:=I.list h3;rw[D.dep,D.dep]at hu;obtain⟨e,he,ee⟩:=vN (A:=A.in1) I l m r1 r2 h2 h4 (by show A.units+1+_+_<_;lia);rw[D.eq];refine Ow (λz=>hab (by rw[z])) ?_;by_cases hz:its.toArray.size=its2.toArray.size
   ·have key:=Pv (A:=A) (s:=s) (l:=a) (b:=b) (items:=its.toArray) (items2:=its2.toArray) (e:=e) p1.isList p2.isList hz ∅ (λj g1 g2=>by
     have:=he j (by simpa using g1) (by simpa using g2);simpa using this)
    rw[Ak,Ak]at hz;rw[<-hz,Wm,beq_self_eq_true,Vb]at ee;rw[Ak,ee]at key;exact key
   ·have hb':(its.length==its2.length)=false:=by simpa using hz
    rw[hb',Hq]at ee;rw[<-ee];exact SeqAt.RcAt.lists_lengths p1.isList p2.isList (by simpa using hz) ∅
theorem vN(I:#v[4]){A:Around}:∀(l m:List D){xs ys:List V}{us ws:List Value},Vals xs us->Vals ys ws->xJ X.K H l xs->xJ X.K H m ys->A.units+D.deps l+D.deps m<cLine->
  ∃e:Nat->Bool,(∀j(h1:j<us.length)(h2:j<ws.length),Ko A s us[j] ws[j] (e j))/\((Bh (min us.length ws.length)).all e && us.length==ws.length)=D.eqs l m
 | [],m,xs,ys,us,ws,r,r',h,h',hu=>by
  cases (show xs=[]from h);cases r;refine#[λ_=>true,λj h1 _=>absurd h1 (Dz j),?_];cases m with
  |nil=>cases (show ys=[]from h');cases r';rw[D.eqs];rfl
  |cons e m=>
   obtain⟨y,t,rfl,_⟩:=h';cases r';simp[D.eqs]
 |d::l,[],xs,ys,us,ws,r,r',h,h',hu=>by
  obtain⟨x,t,rfl,_⟩:=h;cases (show ys=[]from h');cases r;cases r';exact#[λ_=>true,λj _ h1=>absurd h1 (Dz j),by simp[D.eqs]]
 |d::l,e::m,xs,ys,us,ws,r,r',h,h',hu=>by
  obtain⟨x,t,rfl,h1,h2⟩:=h;obtain⟨y,t',rfl,h3,h4⟩:=h';cases r with
  |@cons _ u0 _ us0 ru rus=>
  cases r' with
  |@cons _ w0 _ ws0 rw0 rws=>
  have hu1:A.units+d.dep+e.dep<cLine:=by
   rw[D.deps,D.deps]at hu;have:=La d.dep (D.deps l);have:=La e.dep (D.deps m)
   lia
  have hu2:A.units+D.deps l+D.deps m<cLine:=by
   rw[D.deps,D.deps]at hu;have:=Km d.dep (D.deps l);have:=Km e.dep (D.deps m)
   lia
  have E0:=aP2 I d e (A:=A) ru rw0 h1 h3 hu1;obtain⟨e',he,ee⟩:=vN I l m rus rws h2 h4 hu2;refine#[λj=>match j with|0=>d.eq e|j+1=>e' j,λj g1 g2=>?_,?_]
  ·cases j with
   |zero=>exact E0
   |succ j=>exact he j (by simpa using g1) (by simpa using g2)
  ·have hmin:min (u0::us0).length (w0::ws0).length=min us0.length ws0.length+1:=by
    rw[Am,Am]
    lia
   rw[hmin,rT,D.eqs, <-ee];show(d.eq e && (Bh (min us0.length ws0.length)).all e' && _)=_;rw[Bool.and_assoc];congr 2;rw[Tq];simp
end
end
def aX1{A:Around}{y x:V}{u v:Value}(ry:RelV y u)(rx:RelV x v)(fy:rD y=true)(fx:rD x=true):We A s u v (eqV y x)/\Uk A s u v (!eqV y x):=by
 cases y<;>first|exact(An fy).elim|(cases x<;>first|exact(An fx).elim|skip)
 all_goals first|obtain⟨t1,rfl⟩:=ry|cases ry
 all_goals first|obtain⟨t2,rfl⟩:=rx|cases rx
 ·exact#[.none_none,.none_none]
 ·exact#[.none_bool _,.none_bool _]
 ·exact#[.none_int _ _,.none_int _ _]
 ·exact#[.none_str _ _,.none_str _ _]
 ·exact#[.bool_none _,.bool_none _]
 ·exact#[.bool_bool _ _,.bool_bool _ _]
 ·exact#[.bool_int _ _ _,.bool_int _ _ _]
 ·exact#[.bool_str _ _ _,.bool_str _ _ _]
 ·exact#[.int_none _ _,.int_none _ _]
 ·exact#[.int_bool _ _ _,.int_bool _ _ _]
 ·exact#[.int_int _ _ _ _,.int_int _ _ _ _]
 ·exact#[.int_str _ _ _ _,.int_str _ _ _ _]
 ·exact#[.str_none _ _,.str_none _ _]
 ·exact#[.str_bool _ _ _,.str_bool _ _ _]
 ·exact#[.str_int _ _ _ _,.str_int _ _ _ _]
 ·exact#[.str_str _ _ _ _,.str_str _ _ _ _]
section
variable {X:Cx}{pins:#v[8]}{σ:St}{H:Hp}{s:Shared}
def aMz(I:#v[4])(d e:D){v v':V}{A:Around}(r:RelV v u)(r':RelV v' u')(h:Den X.K H d v)(h':Den X.K H e v')(hu:A.units+d.dep+e.dep<cLine):
  We A s u u' (d.eq e)/\Uk A s u u' (!d.eq e):=by
 have hu':A.units<cLine:=by lia
 match d,e,h,h',hu with
 |.fl x,.fl y,h,h',hu=>
  obtain⟨rfl,f⟩:=h;obtain⟨rfl,f'⟩:=h';rw[D.eq];exact aX1 r r' f f'
 |.fl x,.tp m,h,h',hu=>
  obtain⟨rfl,f⟩:=h;obtain⟨a,xs,rfl,hb,_⟩:=h';cases r';obtain⟨its2,r2,p2,_⟩:=I.tuple hb;rw[show D.eq (.fl v) (.tp m)=false by simp[D.eq]];cases v with
  |non=>cases r;exact#[.none_tuple p2 hu',.none_tuple p2 hu']
  |bl c=>cases r;exact#[.bool_tuple c p2 hu',.bool_tuple c p2 hu']
  |int c=>obtain⟨t,rfl⟩:=r;exact#[.int_tuple c t p2 hu',.int_tuple c t p2 hu']
  |str c=>obtain⟨t,rfl⟩:=r;exact#[.str_tuple c t p2 hu',.str_tuple c t p2 hu']
  |_=>exact(An f).elim
 |.fl x,.ls m,h,h',hu=>
  obtain⟨rfl,f⟩:=h;obtain⟨a,xs,rfl,hb,_⟩:=h';cases r';obtain⟨its2,r2,p2,_⟩:=I.list hb;rw[show D.eq (.fl v) (.ls m)=false by simp[D.eq]];have p2:=p2.isList;cases v with
  |non=>cases r;exact#[.none_list p2 hu',.none_list p2 hu']
  |bl c=>cases r;exact#[.bool_list c p2 hu',.bool_list c p2 hu']
  |int c=>obtain⟨t,rfl⟩:=r;exact#[.int_list c t p2 hu',.int_list c t p2 hu']
  |str c=>obtain⟨t,rfl⟩:=r;exact#[.str_list c t p2 hu',.str_list c t p2 hu']
  |_=>exact(An f).elim
 |.tp m,.fl x,h',h,hu=>
  obtain⟨rfl,f⟩:=h;obtain⟨a,xs,rfl,hb,_⟩:=h';cases r;obtain⟨its2,r2,p2,_⟩:=I.tuple hb;rw[show D.eq (.tp m) (.fl v')=false by simp[D.eq]];cases v' with
  |non=>cases r';exact#[.tuple_none p2 hu',.tuple_none p2 hu']
  |bl c=>cases r';exact#[.tuple_bool c p2 hu',.tuple_bool c p2 hu']
  |int c=>obtain⟨t,rfl⟩:=r';exact#[.tuple_int c t p2 hu',.tuple_int c t p2 hu']
  |str c=>obtain⟨t,rfl⟩:=r';exact#[.tuple_str c t p2 hu',.tuple_str c t p2 hu']
  |_=>exact(An f).elim
 |.ls m,.fl x,h',h,hu=>
  obtain⟨rfl,f⟩:=h;obtain⟨a,xs,rfl,hb,_⟩:=h';cases r;obtain⟨its2,r2,p2,_⟩:=I.list hb;rw[show D.eq (.ls m) (.fl v')=false by simp[D.eq]];have p2:=p2.isList;cases v' with
  |non=>cases r';exact#[.list_none p2 hu',.list_none p2 hu']
  |bl c=>cases r';exact#[.list_bool c p2 hu',.list_bool c p2 hu']
  |int c=>obtain⟨t,rfl⟩:=r';exact#[.list_int c t p2 hu',.list_int c t p2 hu']
  |str c=>obtain⟨t,rfl⟩:=r';exact#[.list_str c t p2 hu',.list_str c t p2 hu']
  |_=>exact(An f).elim
 |.tp l,.ls m,h,h',hu=>
  obtain⟨a,xs,rfl,h1,_⟩:=h;obtain⟨b,ys,rfl,h3,_⟩:=h';cases r;cases r';obtain⟨its,r1,p1,_⟩:=I.tuple h1;obtain⟨its2,r2,p2,_⟩:=I.list h3;rw[show D.eq (.tp l) (.ls m)=false by simp[D.eq]];exact#[.tuple_list p1 p2.isList hu',.tuple_list p1 p2.isList hu']
 |.ls l,.tp m,h,h',hu=>
  obtain⟨a,xs,rfl,h1,_⟩:=h;obtain⟨b,ys,rfl,h3,_⟩:=h';cases r;cases r';obtain⟨its,r1,p1,_⟩:=I.list h1;obtain⟨its2,r2,p2,_⟩:=I.tuple h3;rw[show D.eq (.ls l) (.tp m)=false by simp[D.eq]];exact#[.list_tuple p1.isList p2 hu',.list_tuple p1.isList p2 hu']
 |.tp l,.tp m,h,h',hu=>
  obtain⟨a,xs,rfl,h1,h2⟩:=h;obtain⟨b,ys,rfl,h3,h4⟩:=h';cases r;cases r';obtain⟨its,r1,p1,_⟩:=I.tuple h1;obtain⟨its2,r2,p2,_⟩:=I.tuple h3;rw[D.dep,D.dep]at hu;obtain⟨e,he,ee⟩:=vN (A:=A.in1) I l m r1 r2 h2 h4 (by show A.units+1+_+_<_;lia);have hj:∀j(g1:j<its.toArray.size)(g2:j<its2.toArray.size),Ko A.in1 s its.toArray[j] its2.toArray[j] (e j):=λj g1 g2=>by
   have:=he j (by simpa using g1) (by simpa using g2);simpa using this
  have k1:=Ph p1 p2 hu' hj;have k2:=Wc p1 p2 hu' hj;rw[Ak,Ak,ee]at k1 k2;rw[D.eq];exact#[k1,k2]
 |.ls l,.ls m,h,h',hu=>
  obtain⟨a,xs,rfl,h1,h2⟩:=h;obtain⟨b,ys,rfl,h3,h4⟩:=h';cases r;cases r';obtain⟨its,r1,p1,_⟩:=I.list h1;obtain⟨its2,r2,p2,_⟩:=I.list h3;rw[D.dep,D.dep]at hu;obtain⟨e,he,ee⟩:=vN (A:=A.in1) I l m r1 r2 h2 h4 (by show A.units+1+_+_<_;lia);have hj:∀j(g1:j<its.toArray.size)(g2:j<its2.toArray.size),Ko A.in1 s its.toArray[j] its2.toArray[j] (e j):=λj g1 g2=>by
   have:=he j (by simpa using g1) (by simpa using g2);simpa using this
  rw[D.eq];by_cases hz:its.toArray.size=its2.toArray.size
  ·have k1:=Pv p1.isList p2.isList hz hu' hj;have k2:=Wd p1.isList p2.isList hz hu' hj;rw[Ak,Ak]at hz;rw[<-hz,Wm,beq_self_eq_true,Vb]at ee;rw[Ak,ee]at k1 k2;exact#[k1,k2]
  ·have hb':(its.length==its2.length)=false:=by simpa using hz
   rw[hb',Hq]at ee;rw[<-ee];exact#[.lists_lengths p1.isList p2.isList (by simpa using hz) hu',.lists_lengths p1.isList p2.isList (by simpa using hz) hu']
def Den.inj(I:#v[4]):∀(d:D)(e:D){v:V},Den X.K H d v->Den X.K H e v->d=e:=by
 have key:∀(n:Nat)(d e:D){v:V},d.dep<=n->Den X.K H d v->Den X.K H e v->d=e:=by
  intro n;induction n with
  |zero=>
   intro d e v hn h h';match d,e,h,h',hn with
   |.fl x,.fl y,h,h',_=>rw[<-h.1, <-h'.1]
   |.fl x,.tp m,h,h',_=>obtain⟨rfl,f⟩:=h;obtain⟨a,xs,rfl,_⟩:=h';exact(An f).elim
   |.fl x,.ls m,h,h',_=>obtain⟨rfl,f⟩:=h;obtain⟨a,xs,rfl,_⟩:=h';exact(An f).elim
   |.tp l,_,_,_,hn=>rw[D.dep]at hn;lia
   |.ls l,_,_,_,hn=>rw[D.dep]at hn;lia
  |succ n ih=>
   have items:∀(l m:List D){xs:List V},D.deps l<=n->xJ X.K H l xs->xJ X.K H m xs->l=m:=by
    intro l;induction l with
    |nil=>
     intro m xs _ h h';cases (show xs=[]from h);cases m with
     |nil=>rfl
     |cons e m=>obtain⟨y,t,q,_⟩:=h';cases q
    |cons d l il=>
     intro m xs hn h h';obtain⟨x,t,rfl,h1,h2⟩:=h;cases m with
     |nil=>cases (show(x::t)=[]from h')
     |cons e m=>
      obtain⟨y,t',q,h3,h4⟩:=h';cases q;rw[D.deps]at hn;have a1:=La d.dep (D.deps l);have a2:=Km d.dep (D.deps l);rw[ih d e ∅ h1 h3,il m ∅ h2 h4]
   intro d e v hn h h';match d,e,h,h',hn with
   |.fl x,.fl y,h,h',_=>rw[<-h.1, <-h'.1]
   |.fl x,.tp m,h,h',_=>obtain⟨rfl,f⟩:=h;obtain⟨a,xs,rfl,_⟩:=h';exact(An f).elim
   |.fl x,.ls m,h,h',_=>obtain⟨rfl,f⟩:=h;obtain⟨a,xs,rfl,_⟩:=h';exact(An f).elim
   |.tp m,.fl x,h',h,_=>obtain⟨rfl,f⟩:=h;obtain⟨a,xs,rfl,_⟩:=h';exact(An f).elim
   |.ls m,.fl x,h',h,_=>obtain⟨rfl,f⟩:=h;obtain⟨a,xs,rfl,_⟩:=h';exact(An f).elim
   |.tp l,.ls m,h,h',_=>obtain⟨a,xs,rfl,h1,_⟩:=h;obtain⟨b,ys,e,h3,_⟩:=h';cases e;exact(I.not_both h3 h1).elim
   |.ls l,.tp m,h,h',_=>obtain⟨a,xs,rfl,h1,_⟩:=h;obtain⟨b,ys,e,h3,_⟩:=h';cases e;exact(I.not_both h1 h3).elim
   |.tp l,.tp m,h,h',hn=>
    obtain⟨a,xs,rfl,h1,h2⟩:=h;obtain⟨b,ys,e,h3,h4⟩:=h';cases e;rw[I.tuple_inj h3 h1]at h4;rw[D.dep]at hn;rw[items l m ∅ h2 h4]
   |.ls l,.ls m,h,h',hn=>
    obtain⟨a,xs,rfl,h1,h2⟩:=h;obtain⟨b,ys,e,h3,h4⟩:=h';cases e;rw[I.list_inj h3 h1]at h4;rw[D.dep]at hn;rw[items l m ∅ h2 h4]
 exactλd e v h h'=>key _ d e (Aj _) h h'
inductive aUv(K:Ad)(neg:Bool)(x:V)(y:V)(H:Hp)(Q:VK):Prop
 |mk (d e:_) (q0_:Den K H d x) (q1_:Den K H e y) (q2_:d.dep+e.dep<=100) (q3_:Q (.bl (if neg then !d.eq e else d.eq e)) H):aUv K neg x y H Q
def aWd(K:Ad)(neg:Bool):R2:=λx y H Q=>aUv K neg x y H Q
def eO(hu:X.A.units+101<cLine):OpR X (compareOp .Eq) (aWd X.K false):=by
 intro pins s σ H x y v u Q I rx ry h;obtain⟨d,e,h1,h2,hd,q⟩:=h;exact(aMz (A:=X.A) I d e rx ry h1 h2 ∅).1 _ _ _ _ #[.bl _,H,I,rfl,q]
def lM(hu:X.A.units+101<cLine):OpR X (compareOp .NotEq) (aWd X.K true):=by
 intro pins s σ H x y v u Q I rx ry h;obtain⟨d,e,h1,h2,hd,q⟩:=h;exact(aMz (A:=X.A) I d e rx ry h1 h2 ∅).2 _ _ _ _ #[.bl _,H,I,rfl,q]
inductive aUn(K:Ad)(neg:Bool)(x:V)(y:V)(H:Hp)(Q:VK):Prop
 |mk (d p xs l:_) (q0_:Den K H d x) (q1_:y=.ref p) (q2_:(SqL K H p xs∨SqT K H p xs)) (q3_:xJ K H l xs) (q4_:d.dep+D.deps l<=99) (q5_:Q (.bl (if neg then !(l.any λe=>e.eq d)else l.any λe=>e.eq d)) H):aUn K neg x y H Q
def aV4(K:Ad)(neg:Bool):R2:=λx y H Q=>aUn K neg x y H Q
open Classical in
def tE(I:#v[4]){x:V}{v:Value}(rx:RelV x v)(hx:Den X.K H d x){A:Around}:∀{l:List D}{xs:List V}{us:List Value},Vals xs us->xJ X.K H l xs->A.units+d.dep+D.deps l<cLine->
  ∃e:Value->Bool,(e=λw=>decide (∃d' x',RelV x' w/\Den X.K H d' x'/\d'.eq d=true))/\(∀w∈us,Ko A s w v (e w))/\us.any e=l.any λe=>e.eq d:=by
 intro l;induction l with
 |nil=>
  intro xs us r h hu;cases (show xs=[]from h);cases r;exact#[_,rfl,λw hw=>(by cases hw),rfl]
 |cons d0 l ih=>
  intro xs us r h hu;obtain⟨x0,t,rfl,h1,h2⟩:=h;cases r with
  |@cons _ u0 _ us0 r0 rr=>
  rw[D.deps]at hu;have a1:=La d0.dep (D.deps l);have a2:=Km d0.dep (D.deps l);obtain⟨e,ee,i1,i2⟩:=ih rr h2 ∅;have e0:e u0=d0.eq d:=by
   rw[ee];by_cases hq:d0.eq d=true
   ·rw[hq];exact decide_eq_true #[d0,x0,r0,h1,hq]
   ·rw[Bool.not_eq_true]at hq;rw[hq];refine decide_eq_false ?_;rintro⟨d',x',r',h',q'⟩;cases RelV.inj r' r0;rw[Den.inj I d' d0 h' h1,hq]at q';cases q'
  refine#[e,ee,λw hw=>?_,?_]
  ·rcases List.mem_cons.mp hw with rfl|hw
   ·rw[e0];exact aP2 I d0 d r0 rx h1 hx ∅
   ·exact i1 w hw
  ·rw[Hz,Hz,i2,e0]
def aWj(hu:X.A.units+101<cLine):OpR X (compareOp .In) (aV4 X.K false):=by
 intro pins s σ H x y v u Q I rx ry h;obtain⟨d,p,xs,l,h1,rfl,hq,h2,hd,q⟩:=h;cases ry;rcases hq with hq|hq
 ·obtain⟨its,r,pl,hz⟩:=I.list hq;obtain⟨e,_,i1,i2⟩:=tE (A:=X.A.in1) I rx h1 r h2 (by show X.A.units+1+_+_<_;lia);refine SeqAt.in_listAt e pl.isList (λw hw=>i1 w (by simpa using hw)) #[.bl _,H,I,rfl,?_];rw[show its.toArray.any e=its.any e by simp,i2];exact q
 ·obtain⟨its,r,pl,hz⟩:=I.tuple hq;obtain⟨e,_,i1,i2⟩:=tE (A:=X.A.in1) I rx h1 r h2 (by show X.A.units+1+_+_<_;lia);refine SeqAt.in_tupleAt e pl (λw hw=>i1 w (by simpa using hw)) #[.bl _,H,I,rfl,?_];rw[show its.toArray.any e=its.any e by simp,i2];exact q
def aBw(hu:X.A.units+101<cLine):OpR X (compareOp .NotIn) (aV4 X.K true):=by
 intro pins s σ H x y v u Q I rx ry h;obtain⟨d,p,xs,l,h1,rfl,hq,h2,hd,q⟩:=h;cases ry;rcases hq with hq|hq
 ·obtain⟨its,r,pl,hz⟩:=I.list hq;obtain⟨e,_,i1,i2⟩:=tE (A:=X.A.in1) I rx h1 r h2 (by show X.A.units+1+_+_<_;lia);refine SeqAt.notIn_listAt e pl.isList (λw hw=>i1 w (by simpa using hw)) #[.bl _,H,I,rfl,?_];rw[show its.toArray.any e=its.any e by simp,i2];exact q
 ·obtain⟨its,r,pl,hz⟩:=I.tuple hq;obtain⟨e,_,i1,i2⟩:=tE (A:=X.A.in1) I rx h1 r h2 (by show X.A.units+1+_+_<_;lia);refine SeqAt.notIn_tupleAt e pl (λw hw=>i1 w (by simpa using hw)) #[.bl _,H,I,rfl,?_];rw[show its.toArray.any e=its.any e by simp,i2];exact q
end
mutual
def uA(Av:Addr->Prop)(H:Hp):D->V->Prop
 |.fl x,v=>v=x/\rD x=true
 |.tp l,v=>∃p xs,v=.ref p/\H p=some (.tup xs)/\fL Av H l xs
 |.ls l,v=>∃p xs,v=.ref p/\¬Av p/\H p=some (.lst xs)/\fL Av H l xs
def fL(Av:Addr->Prop)(H:Hp):List D->List V->Prop
 | [],xs=>xs=[]
 |d::l,xs=>∃x r,xs=x::r/\uA Av H d x/\fL Av H l r
end
variable {Av:Addr->Prop}{H H':Hp}
mutual
theorem uA.mono(k1:#v[u])(k2:∀b xs,¬Av b->H b=some (.lst xs)->H' b=some (.lst xs)):∀(d:D){v:V},uA Av H d v->uA Av H' d v
 |.fl x,v,h=>h
 |.tp l,v,h=>by
  obtain⟨p,xs,e,hp,t⟩:=h;exact#[p,xs,e,k1 _ _ hp,fL.mono k1 k2 l t]
 |.ls l,v,h=>by
  obtain⟨p,xs,e,n,hp,t⟩:=h;exact#[p,xs,e,n,k2 _ _ n hp,fL.mono k1 k2 l t]
theorem fL.mono(k1:#v[u])(k2:∀b xs,¬Av b->H b=some (.lst xs)->H' b=some (.lst xs)):∀(l:List D){xs:List V},fL Av H l xs->fL Av H' l xs
 | [],xs,h=>h
 |d::l,xs,h=>by
  obtain⟨x,r,e,h1,h2⟩:=h;exact#[x,r,e,uA.mono k1 k2 d h1,fL.mono k1 k2 l h2]
end
mutual
theorem uA.den(K:Ad):∀(d:D){v:V},uA Av H d v->Den K H d v
 |.fl x,v,h=>h
 |.tp l,v,h=>by
  obtain⟨p,xs,e,hp,t⟩:=h;exact#[p,xs,e,SqT.of hp,fL.dens K l t]
 |.ls l,v,h=>by
  obtain⟨p,xs,e,n,hp,t⟩:=h;exact#[p,xs,e,SqL.of hp,fL.dens K l t]
theorem fL.dens(K:Ad):∀(l:List D){xs:List V},fL Av H l xs->xJ K H l xs
 | [],xs,h=>h
 |d::l,xs,h=>by
  obtain⟨x,r,e,h1,h2⟩:=h;exact#[x,r,e,uA.den K d h1,fL.dens K l h2]
end
mutual
theorem uA.weak(k:∀b,Bv b->Av b):∀(d:D){v:V},uA Av H d v->uA Bv H d v
 |.fl x,v,h=>h
 |.tp l,v,h=>by
  obtain⟨p,xs,e,hp,t⟩:=h;exact#[p,xs,e,hp,fL.weak k l t]
 |.ls l,v,h=>by
  obtain⟨p,xs,e,n,hp,t⟩:=h;exact#[p,xs,e,λz=>n (k p z),hp,fL.weak k l t]
theorem fL.weak(k:∀b,Bv b->Av b):∀(l:List D){xs:List V},fL Av H l xs->fL Bv H l xs
 | [],xs,h=>h
 |d::l,xs,h=>by
  obtain⟨x,r,e,h1,h2⟩:=h;exact#[x,r,e,uA.weak k d h1,fL.weak k l h2]
end
mutual
theorem uA.refl:∀(d:D){v:V},uA Av H d v->d.eq d=true
 |.fl x,v,h=>by
  rw[D.eq];exact aFl h.2
 |.tp l,v,h=>by
  obtain⟨p,xs,e,hp,t⟩:=h;rw[D.eq];exact fL.refl l t
 |.ls l,v,h=>by
  obtain⟨p,xs,e,n,hp,t⟩:=h;rw[D.eq];exact fL.refl l t
theorem fL.refl:∀(l:List D){xs:List V},fL Av H l xs->D.eqs l l=true
 | [],xs,h=>by rw[D.eqs]
 |d::l,xs,h=>by
  obtain⟨x,r,e,h1,h2⟩:=h;rw[D.eqs,uA.refl d h1,fL.refl l h2];rfl
end
structure Cal(P:Program)(w:World)(K:Ad)(mg:Str->#v[12])(base:Heap)(CX:CXT)(k:Nat)(x:Str)(ps:List Str)(sp:Sp):Prop where
 ex:∃f fd,bJ P w K mg base CX k f fd ps sp/\mg x=some (.ref f)/\Hc K (.ref f)=true/\Binds K fd ps []
def aWi{X:Cx}{CX:CXT}{x:Str}{sp:Sp}{E:XK}{e:Expr}{es:List Expr}{t:TA}{p pos:Pos}(C:Cal X.prog X.w X.K X.mg X.base CX k x ps sp)(hr:eY k X.A)(hg:Gl X x)(hx:sH CX X E)
  (ha:PA X (e::es) t) (hdb:ND x:=by decide) (he:SE X e es:=by rfl) (hpl:BT X pos es:=by rfl):
  PE X #v[48] (aTq sp [] E t):=by
 obtain⟨f,fd,F,hm,hk,hb⟩:=C.ex;exact aTa F hr hg hm hk hb .nil hx ha hdb he hpl
abbrev oX(scope sc0:Scope)(cap:#v[14])(N:List Str):Prop:=scope.kind=.function/\(∀y∈scope.names,y.2≠.cell)/\(∀y∈scope.names,y.2=.local->scope.names.lookup y.1=some .local)/\
 (∀y∈scope.names,y.2=.free->sc0.names.lookup y.1=some .cell)/\(∀p∈cap,N[p.2]? =some p.1/\scope.names.lookup p.1=some .free/\sc0.names.lookup p.1=some .cell)
def aJc(hs:#v[64])(hN:X.N=N0)(hcell:HC X)(ok:#v[75]):∃cl,cZ X scope cap cl:=by
 subst hs hN;exact aIh hcell ok.1 ok.2.1 ok.2.2.1 ok.2.2.2.1 ok.2.2.2.2
def aZ1{elt iter tg:Expr}{te:TE}(sc0:Scope)(N0:List Str)(hsc:#v[64])(hN:X.N=N0)(hcell:HC X)
  (ok:#v[75]) (hc:X.calm=true) (hi:#v[62])
  (hg:#v[K]) (he:∀cl C s2 H2 fp,PE #v[3] elt te)
  (hs:FS X iter:=by intro _;rfl):PE X #v[10] #v[66]:=by
 obtain⟨cl,S⟩:=aJc hsc hN hcell ok;exact aI0 S hc hi (hg cl) (he cl) hs
def aVs{elt iter tg ci:Expr}{te:TE}(sc0:Scope)(N0:List Str)(hsc:#v[64])(hN:X.N=N0)(hcell:HC X)
  (ok:#v[75]) (hc:X.calm=true) (hi:#v[62])
  (hg:#v[K]) (htc:∀cl C s2 H2 fp,PT #v[3] ci tc) (he:∀cl C s2 H2 fp,PE #v[3] elt te)
  (hs:FS X iter:=by intro _;rfl):PE X #v[11] #v[38]:=by
 obtain⟨cl,S⟩:=aJc hsc hN hcell ok;exact aOd S hc hi (hg cl) (htc cl) (he cl) hs
def aUq{x:Str}{elt iter tg:Expr}{pos spos py:Pos}{te:TE}(hnd:X.N.Nodup)(hi':X.N[i]? =some x)(hx:#v[C])
  (sc0:Scope) (N0:List Str) (hsc:#v[64]) (hN:X.N=N0) (hcell:HC X)
  (ok:#v[75]) (hc:X.calm=true) (hi:#v[62])
  (hg:#v[K]) (he:∀cl C s2 H2 fp,PE #v[3] elt te)
  (hsw:#v[k]:=by rfl)
  (hs:FS X iter:=by intro _;rfl) (hf:FL X x:=by trivial):
  PS X #v[22] (aE2 #v[66] (pL i)):=by
 obtain⟨cl,S⟩:=aJc hsc hN hcell ok;exact aHn hnd hi' hx S hc hi (hg cl) (he cl) hsw hs hf
def aWm{x:Str}{elt iter tg ci:Expr}{pos spos py:Pos}{te:TE}(hnd:X.N.Nodup)(hi':X.N[i]? =some x)(hx:#v[C])
  (sc0:Scope) (N0:List Str) (hsc:#v[64]) (hN:X.N=N0) (hcell:HC X)
  (ok:#v[75]) (hc:X.calm=true) (hi:#v[62])
  (hg:#v[K]) (htc:∀cl C s2 H2 fp,PT #v[3] ci tc) (he:∀cl C s2 H2 fp,PE #v[3] elt te)
  (hsw:#v[57]:=by rfl)
  (hs:FS X iter:=by intro _;rfl) (hf:FL X x:=by trivial):
  PS X (.Assign [.Name x py] #v[11] spos) (aE2 #v[38] (pL i)):=by
 obtain⟨cl,S⟩:=aJc hsc hN hcell ok;exact aE1 hnd hi' hx S hc hi (hg cl) (htc cl) (he cl) hsw hs hf
def aQx{elt iter tg:Expr}{own:List Str}{cap:#v[14]}{te:TE}
  (S:nF X scope cap cl) (hc:X.calm=true) (hi:#v[62]) (gm:∀x σ H(Q Q':St->Hp->Prop),(∀σ H,Q σ H->Q' σ H)->g x σ H Q->g x σ H Q')
  (hg:#v[35]) (he:∀cs,dI X scope cs->∀C s2 H2 fp,PE #v[f] elt te)
  (hs:FS X iter:=by intro _;rfl):PE X #v[10] #v[66]:=by
 intro pins s σ H Q I h;rw[eval_ListComp];refine Ie (use:=none) rfl hs S.clos S.kind S.names (thn (hi pins s σ H _ I h) λv s1 h1=>thn h1 λitv s2 h2=>?_);obtain⟨it,fp,tn,J,H2,e,I2,T,st2,f2,rd⟩:=h2;subst e;obtain⟨W,w0,turn⟩:=rd _ (I2.hok.fresh (Aj _));exact rR (RR:=λacc C=>compPost #v[p] X.A X.xe none #v[21] acc C) S hc I2 T st2 f2 (λcs cf _=>hg cs cf) (λ_ _ _ _ _ _ _=>yW) (λcs cf _=>he cs cf) W w0 (λi m σc H3 h3=>(turn i m σc H3 h3).imp id λ⟨go,step⟩=>#[go,λx H4 y=>gm _ _ _ _ _ (λσ5 H5 q=>by unfold aMe;dsimp only;rw[if_pos rfl];exact q) (step x H4 y)])
  λC H' s' m _ hm _ _ hback q=>#[m,hm,λh' hs'=>#[.ref s2.heap.objs.size,H',hback h' hs',rfl,q]]
abbrev aCr(scope sc0:Scope)(cap:#v[14])(N:List Str):Prop:=scope.kind=.function/\(∀y∈scope.names,y.2=.local->scope.names.lookup y.1=some .local)/\
 (∀y∈scope.names,y.2=.free->sc0.names.lookup y.1=some .cell)/\(∀p∈cap,¬(p.1,Dx)∈scope.names)/\(∀p∈cap,N[p.2]? =some p.1/\scope.names.lookup p.1=some .free/\sc0.names.lookup p.1=some .cell)
abbrev aXw(scope fsc:Scope)(x:Str):Prop:=scope.names.lookup x=some .cell∨(scope.names.lookup x=some .free/\fsc.names.lookup x=some .cell)
abbrev aH3(isc scope fsc:Scope)(icap:#v[14])(N:List Str):Prop:=isc.kind=.function/\(∀y∈isc.names,y.2≠.cell)/\(∀y∈isc.names,y.2=.local->isc.names.lookup y.1=some .local)/\
 (∀y∈isc.names,y.2=.free->aXw scope fsc y.1)/\(∀p∈icap,N[p.2]? =some p.1/\isc.names.lookup p.1=some .free/\aXw scope fsc p.1)
theorem wA{env:Env}:∀{names:List (Str×NameKind)}{x:Str},names.lookup x=some .cell->
  (names.map λ(n,k)=>if(k==Dm && env.scope.kind== .function && env.kindOf n==some .cell)then(n,Dx)else(n,k)).lookup x=some .cell
 | [],_,h=>by simp at h
 |(n,k)::r,x,h=>by
  have ih:=@wA env r x;show Gb x ((if(k==Dm && env.scope.kind== .function && env.kindOf n==some .cell)=true then(n,Dx)else(n,k))::_)=_;cases hx:x==n with
  |true=>
   simp only[Bk,hx]at h;cases h;rw[if_neg (by simp)];simp[Bk,hx]
  |false=>
   simp only[Bk,hx]at h;by_cases hcc:(k==Dm && env.scope.kind== .function && env.kindOf n==some .cell)=true
   ·rw[if_pos hcc];simp only[Bk,hx];exact ih h
   ·rw[if_neg hcc];simp only[Bk,hx];exact ih h
def aNq(hs:#v[64])(hN:X.N=N0)(hcell:HC X)(ok:aCr scope sc0 cap N0):∃cl,nF X scope cap cl:=by
 subst hs hN;obtain⟨k,nm,fr,cn,cp⟩:=ok;obtain⟨cl,e,a,b⟩:=pQ X.env scope.names [] (λy hy hf=>hcell _ (fr y hy hf)) (λx c h=>by simp at h);refine#[cl,?_,k,nm,a,λx hx=>b x (.inr (Cq hx)),cn,cp];unfold closureFor;refine Ws ?_ e;simp only[bind_pure]
def aS4{scope isc fsc:Scope}{s2:Shared}{H2:Hp}(cf:dI X scope cs)(hfs:X.env.scope=fsc)(hk:fsc.kind=.function)(ok:aH3 isc scope fsc icap Nc):
  ∃cl,cZ #v[n] isc icap cl:=by
 subst hfs;obtain⟨k,nc,nm,fr,cp⟩:=ok;have up:∀x,aXw scope X.env.scope x->(relabel scope X.env).names.lookup x=some .cell:=λx h=>by
  rcases h with h|⟨h,h'⟩
  ·exact wA h
  ·exact gY hk h h'
 obtain⟨cl,e,a,b⟩:=pQ #v[n].env isc.names [] (λy hy hf=>cf _ (fr y hy hf)) (λx c h=>by simp at h);refine#[cl,?_,k,nc,nm,a,λx hx=>b x (.inr (Cq hx)),λp hp=>#[(cp p hp).1,(cp p hp).2.1,up _ (cp p hp).2.2]];unfold closureFor;refine Ws ?_ e;simp only[bind_pure]
section
variable {X:Cx}{B:St->Hp->Prop}{R:Hp->V->Prop}
end
def aMr(K:Ad):List V->Hp->VK->Prop:=λxs H Q=>∃p ys,xs=[.ref p]/\(SqL K H p ys∨SqT K H p ys)/\∀l,H l=none->Q (.ref l) (upd H l (.lst ys))
def aJw(K:Ad):List V->Hp->VK->Prop:=λxs H Q=>∃p ys,xs=[.ref p]/\((SqL K H p ys/\∀l,H l=none->Q (.ref l) (upd H l (.tup ys)))∨(SqT K H p ys/\Q (.ref p) H))
def eG{X:Cx}{K:Ad}(h:X.K=K):dO X (.type "list") (aMr K):=by
 subst h;exact aC0
def aFc{X:Cx}{K:Ad}(h:X.K=K):dO X (.type "tuple") (aJw K):=by
 subst h;exact aBm
def aZ6(_ j:Int):Prop:=0<j/\j<2 ^ 62
def aAq:OpR X (binaryOp .FloorDiv) (rI aZ6 λi j=> .int (i / j)):=opI λi j _ _ _ _ _ hc q=>by
 have h1:(0:Int)<j:=hc.1;have h2:j<2 ^ 62:=hc.2;refine floordiv_int ∅ (by rw[Int.fdiv_eq_ediv_of_nonneg i ∅];exact q) (.inl (PyProof.noPylong_of_log2 ?_));have h3:j.natAbs<2 ^ 62:=by lia
 have:=(Nat.log2_lt ∅).mpr h3
 lia
variable {K:Ad}
def aX2{elt iter tg:Expr}{scope isc:Scope}{s2:Shared}{H2:Hp}{te:TE}(fsc:Scope)(cf:dI X scope cs)(hfs:X.env.scope=fsc)(hk:fsc.kind=.function)
  (ok:aH3 isc scope fsc icap Nc) (hc:X.calm=true) (hi:PI #v[n] tg iter wi)
  (hg:∀cl C' s3 H3 fp',PG #v[45] tg g) (he:∀cl C' s3 H3 fp',PE #v[45] elt te)
  (hs:∀x,foldedSetIterable iter #v[n].env x=pure x:=by intro _;rfl):PE #v[n] (.ListComp elt [#[tg,iter,[],0]] isc pos) (vW own.length icap wi g te):=by
 obtain⟨cl,S⟩:=aS4 (C:=C) (s2:=s2) (H2:=H2) (fp:=fp) cf hfs hk ok;exact aI0 S hc hi (hg cl) (he cl) hs
def aEh{x:Str}{elt iter tg:Expr}{pos spos py:Pos}{te:TE}
  (hN:X.N.Nodup) (hi':X.N[i]? =some x) (hx:#v[C]) (S:nF X scope cap cl) (hc:X.calm=true) (hi:#v[62]) (gm:∀x σ H(Q Q':St->Hp->Prop),(∀σ H,Q σ H->Q' σ H)->g x σ H Q->g x σ H Q')
  (hg:#v[35]) (he:∀cs,dI X scope cs->∀C s2 H2 fp,PE #v[f] elt te)
  (hsw:#v[k]:=by rfl)
  (hs:FS X iter:=by intro _;rfl) (hf:FL X x:=by trivial):
  PS X #v[22] (aE2 #v[66] (pL i)):=by
 intro pins s σ H D I h;rw[Sh _ _ _ _ hsw];refine Aa (Ku (Aa ?_));show wpAny _ X.A (do let _<-comprehension #v[10] scope X.env _ (newList []) false (eval iter X.env) (some #v[65])) _ _ s;refine Aa (Es (Ie (use:=some #v[65]) (Q:=λ_ s'=>SP X pins D .next s') rfl hs S.clos S.kind S.names
  (thn (hi pins s σ H _ I h) λv s1 h1=>thn h1 λitv s2 h2=>?_)) (λ_ s' hq=>Ac (Ac hq)) λ_ _ e=>e)
 obtain⟨it,fp,tn,J,H2,e,I2,T,st2,f2,rd⟩:=h2;subst e;obtain⟨W,w0,turn⟩:=rd _ (I2.hok.fresh (Aj _));refine rR (Q:=λx H1=>pL i x σ H1 D.nx) (RR:=λacc C=>compPost #v[p] X.A X.xe (some #v[65]) (λ_ s'=>SP X pins D .next s') acc C) S hc I2 T st2 f2 (λcs cf _=>hg cs cf) (λ_ _ _ _ _ _ _=>yW) (λcs cf _=>he cs cf) W w0 (λi m σc H3 h3=>(turn i m σc H3 h3).imp id λ⟨go,step⟩=>#[go,λx H4 y=>gm _ _ _ _ _ (λσ5 H5 q=>by unfold aMe;dsimp only;rw[if_pos rfl];exact q) (step x H4 y)])
  λC H' s' m hCle hm hCn I' hback q=>?_
 refine Ny (wF (v:=.ref s2.heap.objs.size) I' hN hi' hx rfl (λs'' I'' ⟨a,hsa,ha⟩=>?_) hf);have hCa:C≠a:=by
  rcases ha with z|z
  ·rw[z];exact Cg (iJ I2.lt hCle)
  ·obtain⟨v,q'⟩:=I2.cell x a z;exact Cg (iJ q'.lt hCle)
 refine#[m,hm.sameBut hsa hCa,λh' hs'=>#[_,H',?_,q]];have hC0:X.s₀.heap.objs.size<=C:=Ci I2.sz hCle;have hnp:∀p∈X.pn++pins,p.1≠C:=λp hp=>iJ (Ar (I2.pin p hp).1) hCle;have hcl:∀y c,X.env.cells.lookup y=some c->c≠C:=λy c e=>by
  obtain⟨v,q'⟩:=I2.cell y c e;exact iJ q'.lt hCle
 have hL:C≠X.env.locals:=Cg (iJ I2.lt hCle);exact I''.turned (t':=s''.toks) (it:=C) (λb o hb e=>(hs'.2 b hb).trans e) hCn hL (.inr hC0) hcl hnp
def jV(P:Program)(w:World)(a:Addr)(xs:#v[W])(h:Heap):Prop:=∃o es ep t,h.get? a=some o/\o.ExactSet/\o.data=.set es ep t/\es.toList=xs.map (λx=>(#v[27].hash x.1,Ao x.2))/\t.Good/\t.place.size=es.size/\(xs.map (·.1)).Nodup/\
 (∀(i j:Nat)(x:(Int×List Int)×Addr),t.place[i]? =some j->xs[i]? =some x->SetTable.tZ t (#v[27].hash x.1) j)/\t.Small/\t.plain=true/\t.led= !w.params.followText "set-order"
def TKy(H:Hp)(x:List Int×Addr):Prop:=H x.2=some (.tup (x.1.map V.int))
def PKy(H:Hp)(x:(Int×List Int)×Addr):Prop:=∃q,H x.2=some (.tup [.int x.1.1,.ref q])/\TKy H (x.1.2,q)
section
variable {P:Program}{w:World}{H:Hp}{h:Heap}{a:Addr}{s:Shared}{xs:#v[W]}
def jV.stay(h1 h2:Heap)(p:jV P w a xs h1)(k:∀o,h1.get? a=some o->h2.get? a=some o):jV P w a xs h2:=let⟨o,es,ep,t,e,c⟩:=p;#[o,es,ep,t,k _ e,c]
def jV.of(I:lW #v[27] s a (!w.params.followText "set-order") xs):jV P w a xs s.heap:=by
 obtain⟨o,es,ep,t,S,r1,r2,r3⟩:=I;exact#[o,es,ep,t,S.ho,S.hex,S.hd,S.he,S.good,S.size,S.nd,S.way,r1,r2,r3]
def jV.is(I:jV P w a xs s.heap)(keys:∀x∈xs,bN (intKind P w) s.heap x.1 x.2):lW #v[27] s a (!w.params.followText "set-order") xs:=by
 obtain⟨o,es,ep,t,a1,a2,a3,a4,a5,a6,a7,a8,r1,r2,r3⟩:=I;exact#[o,es,ep,t,#[a1,a2,a3,a4,a5,a6,keys,a7,a8],r1,r2,r3]
def aKu:∀{us:List Value},Vals #v[M] us->ItemsAre (intKind P w) ns us:=by
 induction ns with
 |nil=>intro us r;rw[Fm]at r;cases r;exact .nil
 |cons n ns ih=>
  intro us r;rw[Ba]at r;cases r with
  |@cons _ v _ _ r1 t=>
   obtain⟨tk,rfl⟩:=r1;exact .cons (by show Jz n (.int n tk)=true;simp[Jz]) (ih t)
def aRo{x:List Int×Addr}(ok:HOk P w H h)(e:TKy H x):IsTupleKey (intKind P w) h x.1 x.2:=by
 obtain⟨_,its,r,o,h1,h2,n,h3⟩:=(show bO P w H h x.2 (.tup (x.1.map V.int))from ok _ _ e);exact#[o,its.toArray,n,h1,h2,h3,aKu r]
def yR{x:(Int×List Int)×Addr}(ok:HOk P w H h)(e:PKy H x):bN (intKind P w) h x.1 x.2:=by
 obtain⟨q,e1,e2⟩:=e;obtain⟨_,its,r,o,h1,h2,n,h3⟩:=(show bO P w H h x.2 (.tup [.int x.1.1,.ref q])from ok _ _ e1);obtain⟨u,v,rfl,ru,rv⟩:=vals2 r;obtain⟨tk,rfl⟩:=ru;obtain rfl:v=Ao q:=rv;exact#[o,_,q,n,h1,h2,h3,(by show Jz _ (.int _ tk)=true;simp[Jz]),aRo ok e2]
end
theorem aA1:∀{ps:#v[W]}{us:List Value},Vals (ps.map λx=>V.ref x.2) us->us=ps.map λx=>Ao x.2
 | [],_,.nil=>rfl
 |_::_,_,.cons (r1:_=Ao _) t=>by subst r1;rw[Ba,aA1 t]
theorem zP:∀{ps:#v[W]},Vals (ps.map λx=>V.ref x.2) (ps.map λx=>Ao x.2)
 | []=> .nil
 |_::_=> .cons rfl zP
inductive aPx(P:Program)(w:World)(K:Ad)(xs:List V)(H:Hp)(Q:VK):Prop
 |mk (p:Addr) (ps:#v[W]) (q0_:xs=[.ref p]) (q1_:SqL K H p (ps.map λx=>V.ref x.2)) (q2_:(∀x∈ps,PKy H x)) (q3_:ps.length<=1000) (q4_:(∃ks:List (Int×List Int),ks.length<4/\∀x∈ps,x.1∈ks)) (q5_:∀(l:Addr)(zs:#v[W]),H l=none->(zs.map (·.1)).Nodup->(∀x∈zs,x∈ps)->(∀x∈ps,∃z∈zs,z.1=x.1)->zs.length<=ps.length->Q (.ref l) (upd H l (.ext (jV P w l zs)))):aPx P w K xs H Q
def aZu(P:Program)(w:World)(K:Ad):List V->Hp->VK->Prop:=λxs H Q=>aPx P w K xs H Q
inductive aCb(P:Program)(w:World)(xs:List V)(H:Hp)(Q:VK):Prop
 |mk (p:Addr) (ps:#v[W]) (q0_:xs=[.ref p]) (q1_:H p=some (.ext (jV P w p ps))) (q2_:(∀x∈ps,PKy H x)) (q3_:ps.length<64) (q4_:∀(l:Addr)(ys:#v[W]),H l=none->ys.Perm ps->ys.Pairwise (λx y=>wR x.1 y.1=true)->Q (.ref l) (upd H l (.lst (ys.map λx=>V.ref x.2)))):aCb P w xs H Q
def aMo(P:Program)(w:World):List V->Hp->VK->Prop:=λxs H Q=>aCb P w xs H Q
def aCh(hu:X.A.units+20<cLine)(hc:X.calm=true):dO X (.type "set") (aZu X.prog X.w X.K):=by
 intro pins s σ H xs us Q I r h;obtain⟨p,ps,rfl,hq,hk,hln,⟨ks,kl,km⟩,q⟩:=h;obtain⟨u,rfl,ru⟩:=vals1 r;cases ru;obtain⟨its,rv,pl,hz⟩:=I.list hq;have ei:=aA1 rv;have hlen:its.length=ps.length:=by rw[ei,Ab]
 have at_:∀i,i<ps.length->ps.getD i ((0,[]),0)∈ps:=λi hi=>by simp[Jx,hi]
 refine aA7 (knd:=cY (intKind X.prog X.w)) (items:=its.toArray) (val:=λi=>(ps.getD i ((0,[]),0)).1) (adr:=λi=>(ps.getD i ((0,[]),0)).2) (aMh λk v hv=>?_) (λA' hA=>?_) #v[58] pl.isList (λi v hv=>?_) (λj hj=>?_) (λi xs hi M nd=>?_) λh' tk zs S M hk'=>?_
 ·obtain⟨t,rfl⟩:=Ez hv;exact#[_,_,rfl]
 ·show A'.units+1<cLine
  lia
 ·have hi:i<its.toArray.size:=(Array.getElem?_eq_some_iff.mp hv).1;rw[Ak,hlen]at hi;rw[List.getElem?_toArray,ei]at hv;simp[hi]at hv;rw[<-hv];simp[Jx,hi]
 ·rw[Ak,hlen]at hj;exact yR I.hok (hk _ (at_ j hj))
 ·rw[Ak,hlen]at hi;have:=nd.length_le_of_subset (l₂:=ks) λk hk=>by
   obtain⟨x,hx,rfl⟩:=List.mem_map.mp hk;obtain⟨j,hj,e⟩:=M.from' x hx;rw[e];exact km _ (at_ j ∅)
  rw[Ab]at this
  lia
 ·have kp:∀b o,s.heap.get? b=some o->h'.get? b=some o:=λb o e=>hk' b o (Ar e) e;have so:=jV.of S;have nd:(zs.map (·.1)).Nodup:=by obtain⟨_,_,_,_,S,_⟩:=S;exact S.nd
  refine#[.ref #v[0],_,I.laid (t':=tk) (o:=.ext (jV X.prog X.w #v[0] zs)) kp (Aj _) #[so,?_,λh1 h2 p k=>jV.stay h1 h2 p k],rfl,q _ zs #v[G] nd (λx hx=>?_) (λx hx=>?_) ?_]
  ·obtain⟨o,_,_,_,e,_⟩:=so;exact#[o,e]
  ·obtain⟨j,hj,e⟩:=M.from' x hx;rw[Ak,hlen]at hj;rw[e];exact at_ j hj
  ·obtain⟨j,hj,e⟩:=Gc hx;obtain⟨z,hz,ez⟩:=M.all j (by rw[Ak,hlen];exact hj);refine#[z,hz,?_];rw[ez, <-e];simp[Jx,hj]
  ·have:=M.len;rw[Ak,hlen]at this;exact this
def aDn(hu:X.A.units+40<cLine)(hc:X.calm=true):dO X (.builtin "sorted") (aMo X.prog X.w):=by
 intro pins s σ H xs us Q I r h;obtain⟨p,ps,rfl,hp,hk,h64,q⟩:=h;obtain⟨u,rfl,ru⟩:=vals1 r;cases ru;obtain⟨so,_,_⟩:=(show bO X.prog X.w H s.heap p (.ext (jV X.prog X.w p ps))from I.hok p _ hp);refine aHc (aRm λk v hv=>by obtain⟨t,rfl⟩:=Ez hv;exact#[_,_,rfl]) ∅ #v[58] (so.is λx hx=>yR I.hok (hk x hx)) (λ_ _=>trivial) h64 λh' tk l e ys py hy hl hg kp=>?_;refine#[.ref l,_,I.laid (t':=tk) (o:=.lst (ys.map λx=>V.ref x.2)) kp hl #[?_,_,e,zP,hg],rfl,q l ys (I.hok.fresh hl) py hy];rw[Ab,py.length_eq,Dy]
 lia
def aCl(w:World)(a:Addr)(x:Nat)(b:Bool)(h:Heap):Prop:=∃o ep tk,h.get? a=some o/\o.ExactSet/\o.data=.set #v[77] ep (aBh (!w.params.followText "set-order") (zs1 x b))
def xZ(l:List Nat):List V:=l.map λk:Nat=> .int (k:Int)
inductive aO7(w:World)(K:Ad)(xs:List V)(H:Hp)(Q:VK):Prop
 |mk (p:Addr) (ns:List Nat) (x:Nat) (q0_:xs=[.ref p]) (q1_:SqL K H p (xZ ns)) (q2_:(∀n∈ns,n=x)) (q3_:x∈[1,2,3]) (q4_:∀l:Addr,H l=none->Q (.ref l) (upd H l (.ext (aCl w l x (decide (0<ns.length)))))):aO7 w K xs H Q
def bAy(w:World)(K:Ad):List V->Hp->VK->Prop:=λxs H Q=>aO7 w K xs H Q
inductive aB5(w:World)(xs:List V)(H:Hp)(Q:VK):Prop
 |mk (p:Addr) (x:Nat) (b:Bool) (q0_:xs=[.ref p]) (q1_:H p=some (.ext (aCl w p x b))) (q2_:x∈[1,2,3]) (q3_:∀l,H l=none->Q (.ref l) (upd H l (.lst (xZ (zs1 x b))))):aB5 w xs H Q
def aNz(w:World):List V->Hp->VK->Prop:=λxs H Q=>aB5 w xs H Q
theorem aFf{x:Nat}:∀{ns:List Nat}{us:List Value},(∀n∈ns,n=x)->Vals (xZ ns) us->∀(i:Nat)(v:Value),us[i]? =some v->∃t,v=.int x t
 | [],_,_,.nil,i,v,h=>by simp at h
 |n::ns,u::us,hn,.cons r t,0,v,h=>by
  obtain⟨tk,e⟩:=r;have:u=v:=by simpa using h
  exact#[tk,by rw[<-this,e, <-hn n Ah]]
 |n::ns,u::us,hn,.cons r t,i+1,v,h=>aFf (λm hm=>hn m (Af _ hm)) t i v (by simpa using h)
def aKh(hc:X.calm=true):dO X (.type "set") (bAy X.w X.K):=by
 intro pins s σ H xs us Q I r h;obtain⟨p,ns,x,rfl,hq,hn,h3,q⟩:=h;obtain⟨u,rfl,ru⟩:=vals1 r;cases ru;obtain⟨its,rv,pl,hz⟩:=I.list hq;have hlen:its.length=ns.length:=by rw[<-Vals.length rv];unfold xZ;rw[Ab]
 refine aA5 (items:=its.toArray) #v[58] pl.isList (λi v hv=>aFf hn rv i v (by simpa using hv)) h3 λh' tk S kp'=>?_;have kp:∀b o,s.heap.get? b=some o->h'.get? b=some o:=λb o e=>kp' b o (Ar e) e;rw[show its.toArray.size=ns.length by rw[Ak,hlen]]at S;have so:aCl X.w #v[0] x (decide (0<ns.length)) h':=S;refine#[.ref #v[0],_,I.laid (t':=tk) (o:=.ext (aCl X.w #v[0] _ _)) kp (Aj _) #[so,?_,λh1 h2 p k=>?_],rfl,q _ #v[G]]
 ·obtain⟨o,_,_,e,_⟩:=so;exact#[o,e]
 ·obtain⟨o,ep,tk,e,c⟩:=p;exact#[o,ep,tk,k _ e,c]
def aDb(hc:X.calm=true):dO X (.builtin "sorted") (aNz X.w):=by
 intro pins s σ H xs us Q I r h;obtain⟨p,x,b,rfl,hp,hx,q⟩:=h;obtain⟨u,rfl,ru⟩:=vals1 r;cases ru;obtain⟨so,_,_⟩:=(show bO X.prog X.w H s.heap p (.ext (aCl X.w p x b))from I.hok p _ hp);obtain⟨o,ep,tk,ho,hex,hd⟩:=so;have l3:(zs1 x b).length<=1:=by cases b<;>simp[zs1]
 refine Oi kind_sorted plain_sorted entry_sorted (args_sorted1 _) ?_;unfold Builtin.«sorted»;refine Aa (m:=checkCount "sorted" 1 1 _) (Ac ?_);have rise:SetTable.uE (aBh (!X.w.params.followText "set-order") (zs1 x b)).place:=by
  intro i j h1 h2;have:j<1:=Be h2 (by show(zs1 x b).toArray.size<=1;rw[Ak];exact l3)
  lia
 refine Aa (oJ (by simpa using I.ok.hd hc) ho hex hd (aP1 hx) rise rfl rfl (by have:=aUg (x:=x) b tk;rw[Dy];lia) λh' tk' s1 hk=>?_);have ey:gW X.w p #v[77] ep=(zs1 x b).map λz:Nat=>Ec (z:Int) (tk z):=by
  have:=lK X.w p #v[77] ep;cases b
  ·exact this.eq_nil
  ·exact List.perm_singleton.mp this
 rw[ey];have hi:IntsAre ((zs1 x b).map λz:Nat=>Ec (z:Int) (tk z)) ((zs1 x b).map λz:Nat=>(z:Int)):=by
  cases b
  ·exact .nil
  ·exact .cons _ _ .nil
 generalize ((zs1 x b).map λz:Nat=>Ec (z:Int) (tk z))=vs at hi;have hal:vs.length=(zs1 x b).length:=by rw[hi.length,Ab]
 refine Aa (Rf ?_ (by rw[Dy];lia));have hoL:(h'.push (seqObj "list" vs.toArray 0)).get? h'.objs.size=some (seqObj "list" vs.toArray 0):=Ap _ rfl;refine Aa (Bq (Bl slot_list_sort #[_,hoL,rfl] entry_list_sort (list_sort_tree hoL hi ∅ λout ms a1 a2 a3=>#[_,rfl,?_]) (args_list_sort _)));refine Ac #[_,rfl,?_];obtain⟨e,he⟩:=sortedHeap_at (vs:=vs) (out:=out) hoL;have hsz:h'.objs.size<(h'.push (seqObj "list" vs.toArray 0)).objs.size:=by rw[Ck];exact Fj _
 have keep:∀b o,s.heap.get? b=some o->(sortedHeap (h'.push (seqObj "list" vs.toArray 0)) h'.objs.size vs out).get? b=some o:=λb o eb=>by
  have e1:=hk b o eb;have hlt:=Ar e1;rw[sortedHeap_old (Aw hlt) (Kz hlt hsz)];exact Ae _ e1
 have hge:#v[0]<=h'.objs.size:=Fd s1;have es:ms=(zs1 x b).map λz:Nat=>(z:Int):=by
  cases b
  ·exact a2.eq_nil
  ·exact List.perm_singleton.mp a2
 have en:ms.map V.int=xZ (zs1 x b):=by rw[es,Au];rfl
 refine#[.ref h'.objs.size,_,I.laid (t':=tk') (o:=.lst (ms.map V.int)) keep hge #[?_,out.toList,e,uD a1,by simpa using he],rfl,by rw[en];exact q _ (I.hok.fresh hge)];rw[Ab,a2.length_eq,Ab,Dy]
 lia
structure Dis(P:Program)(w:World)(K:Ad)(mg:Str->#v[12])(base:Heap)(CX:CXT)(k:Nat)(Cs:Addr->Prop)(m:Str)(ps:List Str)(sp:Addr->Sp):Prop where
 ex:∀C,Cs C->Cls K C/\∃f fd,Meth K C m f/\bJ P w K mg base CX k f fd ps (sp C)/\Binds K fd ps []
def aQw(Cs:Addr->Prop)(m:Str)(sp:Addr->Sp)(E:XK)(ta:TE)(t:TA):TE:=λσ H Q=>ta σ H λx H1=>∃a C dx fs,x=.ref a/\H1 a=some #v[82]/\Cs C/\fs.lookup m=none/\t σ H1 λvs H2=>sp C (.ref a::vs) H2 Q E
section
variable {X:Cx}{CX:CXT}{k:Nat}{Cs:Addr->Prop}{m:Str}{ps:List Str}{sp:Addr->Sp}{E:XK}{o e:Expr}{es:List Expr}{ta:TE}{t:TA}{apos pos:Pos}
def aQr(he:PE X o ta)(D:Dis X.prog X.w X.K X.mg X.base CX k Cs m ps sp)(hr:eY k X.A)(hx:sH CX X E)(ha:PA X (e::es) t)
  (hst:SE X e es:=by rfl) (hpl:BT X pos es:=by rfl)
  (ht:eval (.Call #v[68] (e::es) [] pos) X.env=(do
   let ov<-eval o X.env
   standAt apos.atName
   let(f,first)<-holding [ov] (getMethod ov m pl)
   callWith pos f first (backTo pos (starEach (e::es) X.env)) (backToKw pos #v[30])):=by rfl):
  PE X (.Call #v[68] (e::es) [] pos) (aQw Cs m sp E ta t):=by
 intro pins s σ H Q I h;refine Oz (pl:=pl) (thn #v[47] λu s1 ⟨x,H1,I1,rx,a,C,dx,fs,ex,ea,hC,l,q⟩=>?_) ht;subst ex;obtain rfl:u=Ao a:=rx;obtain⟨c,f,fd,hm,F,hb⟩:=D.ex C hC;refine zN I1 ea c hm l ?_;refine Le (first:=[.ref a]) (h₀:=X.base) I.ok.mod.kin hm.kp (thn (ha pos pins s1 σ H1 _ I1 q) λus s2 ⟨vs,H2,I2,r,q2⟩=>#[I2.kIn,?_]) hst hpl;exact aHv (us:=.ref a::us) (vs:=.ref a::vs) F hr hb .nil hx I2 (.cons rfl r) (by rw[Bb];exact q2)
def aL8(he:PE X o ta)(D:Dis X.prog X.w X.K X.mg X.base CX k Cs m ps sp)(hr:eY k X.A)(hx:sH CX X E)
  (ht:eval (.Call #v[68] [] [] pos) X.env=(do
   let ov<-eval o X.env
   standAt apos.atName
   let(f,first)<-holding [ov] (getMethod ov m pl)
   callWith pos f first (backTo pos (starEach [] X.env)) (backToKw pos #v[30])):=by rfl):
  PE X (.Call #v[68] [] [] pos) (aQw Cs m sp E ta aIm):=by
 intro pins s σ H Q I h;refine Oz (pl:=pl) (thn #v[47] λu s1 ⟨x,H1,I1,rx,a,C,dx,fs,ex,ea,hC,l,q⟩=>?_) ht;subst ex;obtain rfl:u=Ao a:=rx;obtain⟨c,f,fd,hm,F,hb⟩:=D.ex C hC;refine zN I1 ea c hm l ?_;exact PySem.W.callWith_K0 (first:=[.ref a]) I1.kIn hm.kp (aHv (us:=[.ref a]) (vs:=[.ref a]) F hr hb .nil hx I1 (.cons rfl .nil) q)
end
variable {o e:Expr}{td ty:TE}
structure Opq where
 φ:(Addr->Prop)->(Addr->Prop)->Hp->V->Prop
 mono:∀{W B B' H H'}{v:V},(∀b o,¬B b->H b=some o->¬B' b/\H' b=some o)->φ W B H v->φ W B' H' v
 wm:∀{W W' B H}{v:V},(∀p,W p->W' p)->φ W B H v->φ W' B H v
inductive U where
 |v (x:V)
 |tp (l:List U)
 |ls (l:List U)
 |ob (C:Addr) (ns:List Str) (us:List U)
 |dk (ns:List Str) (us:List U)
 |op (o:Opq)
 |wl
abbrev U.n(i:Int):U:=.v (.int i)
abbrev U.b(c:Bool):U:=.v (.bl c)
abbrev U.s(x:Str):U:=.v (.str x)
abbrev U.no:U:=.v .non
def Wll(H:Hp)(a:Addr):Prop:=∃x y z:Int,H a=some (.lst [.int x,.int y,.int z])
section
variable (W B:Addr->Prop)(H:Hp)
mutual
def DU:U->V->Prop
 |.v x,y=>y=x/\rD x=true
 |.tp l,y=>∃p xs,y=.ref p/\¬B p/\H p=some (.tup xs)/\DUs l xs
 |.ls l,y=>∃p xs,y=.ref p/\¬B p/\H p=some (.lst xs)/\DUs l xs
 |.ob C ns us,y=>∃p dx xs,y=.ref p/\¬B p/\H p=some (.ins C dx (ns.zip xs))/\ns.length=xs.length/\DUs us xs
 |.dk ns us,y=>∃p xs,y=.ref p/\¬B p/\H p=some (.dK ((ns.map Lq).zip xs))/\ns.length=xs.length/\DUs us xs
 |.op o,y=>o.φ W B H y
 |.wl,y=>∃p,y=.ref p/\W p
def DUs:List U->List V->Prop
 | [],xs=>xs=[]
 |u::l,xs=>∃x r,xs=x::r/\DU u x/\DUs l r
end
end
section
variable {W B B':Addr->Prop}{H H':Hp}
mutual
theorem DU.mono(k:#v[43]):∀(u:U){v:V},DU W B H u v->DU W B' H' u v
 |.v _,_,h=>h
 |.tp l,_,⟨p,xs,e,nb,hp,t⟩=>#[p,xs,e,(k _ _ nb hp).1,(k _ _ nb hp).2,DUs.mono k l t]
 |.ls l,_,⟨p,xs,e,nb,hp,t⟩=>#[p,xs,e,(k _ _ nb hp).1,(k _ _ nb hp).2,DUs.mono k l t]
 |.ob _ _ us,_,⟨p,dx,xs,e,nb,hp,hl,t⟩=>#[p,dx,xs,e,(k _ _ nb hp).1,(k _ _ nb hp).2,hl,DUs.mono k us t]
 |.dk _ us,_,⟨p,xs,e,nb,hp,hl,t⟩=>#[p,xs,e,(k _ _ nb hp).1,(k _ _ nb hp).2,hl,DUs.mono k us t]
 |.op o,_,h=>o.mono k h
 |.wl,_,h=>h
theorem DUs.mono(k:#v[43]):∀(l:List U){xs:List V},DUs W B H l xs->DUs W B' H' l xs
 | [],_,h=>h
 |u::l,_,⟨x,r,e,h,t⟩=>#[x,r,e,DU.mono k u h,DUs.mono k l t]
end
def DUs.length:∀{l:List U}{xs:List V},DUs W B H l xs->l.length=xs.length
 | [],_,h=>by rw[show _=[]from h];rfl
 |_::_,_,⟨_,_,e,_,t⟩=>by rw[e,Am,Am,DUs.length t]
def DUs.get:∀{l:List U}{xs:List V}{i:Nat}{u:U},DUs W B H l xs->l[i]? =some u->∃x,xs[i]? =some x/\DU W B H u x
 | [],_,_,_,_,e=>by simp at e
 |_::_,_,0,_,⟨x,_,e,h,_⟩,q=>by simp at q;subst q e;exact#[x,rfl,h]
 |_::_,_,i+1,_,⟨_,_,e,_,t⟩,q=>by
  obtain⟨y,h1,h2⟩:=DUs.get (i:=i) t (by simpa using q);exact#[y,by rw[e];simpa using h1,h2]
def DUs.getV{l:List U}{xs:List V}{x:V}(h:DUs W B H l xs)(e:xs[i]? =some x):∃u,l[i]? =some u/\DU W B H u x:=by
 have hi:i<l.length:=by rw[h.length];exact(List.getElem?_eq_some_iff.mp e).1
 obtain⟨y,h1,h2⟩:=h.get (Ag hi);rw[e]at h1;cases h1;exact#[_,Ag hi,h2]
def DUs.app:∀{l m:List U}{xs ys:List V},DUs W B H l xs->DUs W B H m ys->DUs W B H (l++m) (xs++ys)
 | [],_,_,_,h,t=>by rw[show _=[]from h];exact t
 |_::_,_,_,_,⟨x,r,e,h,t⟩,t'=>#[x,_,by rw[e];rfl,h,DUs.app t t']
def DUs.drop:∀{l:List U}{xs:List V}(i:Nat),DUs W B H l xs->DUs W B H (l.drop i) (xs.drop i)
 |_,_,0,h=>h
 | [],_,_+1,h=>by rw[show _=[]from h];rfl
 |_::_,_,i+1,⟨_,_,e,_,t⟩=>by rw[e];exact DUs.drop i t
def DUs.take:∀{l:List U}{xs:List V}(i:Nat),DUs W B H l xs->DUs W B H (l.take i) (xs.take i)
 |_,_,0,_=>rfl
 | [],_,_+1,h=>by rw[show _=[]from h];rfl
 |_::_,_,i+1,⟨x,_,e,h,t⟩=>by rw[e];exact#[x,_,rfl,h,DUs.take i t]
def DUs.one{x:V}(h:DU W B H u x):DUs W B H [u] [x]:=#[x,[],rfl,h,rfl]
end
section
variable {W W' B:Addr->Prop}{H:Hp}
mutual
theorem DU.wm(k:∀p,W p->W' p):∀(u:U){v:V},DU W B H u v->DU W' B H u v
 |.v _,_,h=>h
 |.tp l,_,⟨p,xs,e,nb,hp,t⟩=>#[p,xs,e,nb,hp,DUs.wm k l t]
 |.ls l,_,⟨p,xs,e,nb,hp,t⟩=>#[p,xs,e,nb,hp,DUs.wm k l t]
 |.ob _ _ us,_,⟨p,dx,xs,e,nb,hp,hl,t⟩=>#[p,dx,xs,e,nb,hp,hl,DUs.wm k us t]
 |.dk _ us,_,⟨p,xs,e,nb,hp,hl,t⟩=>#[p,xs,e,nb,hp,hl,DUs.wm k us t]
 |.op o,_,h=>o.wm k h
 |.wl,_,⟨p,e,h⟩=>#[p,e,k p h]
theorem DUs.wm(k:∀p,W p->W' p):∀(l:List U){xs:List V},DUs W B H l xs->DUs W' B H l xs
 | [],_,h=>h
 |u::l,_,⟨x,r,e,h,t⟩=>#[x,r,e,DU.wm k u h,DUs.wm k l t]
end
end
structure Fw(W:Addr->Prop)(H H':Hp):Prop where
 fr:∀b o,¬W b->H b=some o->H' b=some o
 wo:∀p,W p->Wll H' p
def Fw.trans{H H1 H2:Hp}(a:Fw W H H1)(b:Fw W H1 H2):Fw W H H2:=#[λc o n h=>b.fr c o n (a.fr c o n h),b.wo]
def Mt:HO->Prop
 |.lst _=>True
 |.ext _=>True
 |.dK _=>True
 |.tbl _=>True
 |_=>False
structure EB(W B:Addr->Prop)(H:Hp):Prop where
 bl:∀p,B p->∃o,H p=some o/\Mt o
 wb:∀p,W p->B p
 wo:∀p,W p->Wll H p
structure Own where
 φ:(Addr->Prop)->(Addr->Prop)->(Addr->Prop)->Hp->Addr->Prop
 mono:∀{W B B' S H H'}{p:Addr},(∀b o,¬B b->H b=some o->¬B' b/\H' b=some o)->(∀b,S b->H' b=H b)->φ W B S H p->φ W B' S H' p
 wm:∀{W W' B S H}{p:Addr},(∀p,W p->W' p)->φ W B S H p->φ W' B S H p
 th:∀{W B S H}{p:Addr},φ W B S H p->∀b,S b->∃o,H b=some o/\Mt o
def Own.fz(o:Own):Opq:=#[λW B H v=>∃p S,v=.ref p/\(∀b,S b->¬B b)/\o.φ W B S H p,λk ⟨p,S,e,n,h⟩=>#[p,S,e,λb hb=>let⟨x,q,_⟩:=o.th h b hb;(k b x (n b hb) q).1,o.mono k (λb hb=>let⟨x,q,_⟩:=o.th h b hb;(k b x (n b hb) q).2.trans q.symm) h],λk ⟨p,S,e,n,h⟩=>#[p,S,e,n,o.wm k h]]
def bBi:Opq:=#[λ_ _ _ _=>True,λ_ _=>trivial,λ_ _=>trivial]
inductive Sl where
 |no
 |sh (u:U)
 |ow (l:List U)
 |br (l:List U)
 |oo (o:Own)
 |bo (o:Own)
abbrev EV:=List Sl
def Sl.rd:Sl->U
 |.sh u=>u
 |.ow l=> .ls l
 |.br l=> .ls l
 |.no=> .wl
 |_=> .op bBi
def Sl.es:Sl->(U->Prop)->Prop
 |.sh u,R=>R u
 |.ow l,R=>R (.ls l)
 |.oo o,R=>R (.op o.fz)
 |_,_=>False
def lsO(l:List U):Own:=#[λW B S H p=>(∀b,S b↔b=p)/\∃xs,H p=some (.lst xs)/\DUs W B H l xs,λk e ⟨s,xs,h,d⟩=>#[s,xs,(e _ ((s _).mpr rfl)).trans h,DUs.mono k l d],λk ⟨s,xs,h,d⟩=>#[s,xs,h,DUs.wm k l d],λ⟨s,_,h,_⟩ b hb=>by rw[(s b).mp hb];exact#[_,h,trivial]]
def Sl.hold:Sl->Option Own
 |.ow l=>some (lsO l)
 |.br l=>some (lsO l)
 |.oo o=>some o
 |.bo o=>some o
 |_=>none
section
variable (W B:Addr->Prop)(H H':Hp)
def RO:Sl->V->Prop
 |.sh u,y=>DU W B H' u y
 |.ow l,y=>∃p xs,y=.ref p/\H p=none/\H' p=some (.lst xs)/\DUs W (λb=>B b∨b=p) H' l xs
 |.br l,y=>∃p xs,y=.ref p/\¬W p/\H' p=some (.lst xs)/\DUs W B H' l xs
 |.oo o,y=>∃p S,y=.ref p/\(∀b,S b->H b=none)/\o.φ W (λb=>B b∨S b) S H' p
 |.bo o,y=>∃p S,y=.ref p/\(∀b,S b->¬W b)/\o.φ W B S H' p
 |.no,_=>False
def DB(u:U)(y:V):Prop:=DU W B H u y∨∃l p xs,u=.ls l/\y=.ref p/\¬W p/\H p=some (.lst xs)/\DUs W B H l xs
structure EE(ρ:EV)(σ:St):Prop where
 eb:EB W B H
 len:ρ.length=σ.length
 sh:∀(i:Nat)(u:U),ρ[i]? =some (Sl.sh u)->∃v,σ[i]? =some (some v)/\DU W B H u v
 hd:∀(i:Nat)(s:Sl)(o:Own),ρ[i]? =some s->s.hold=some o->∃p S,σ[i]? =some (some (V.ref p))/\(∀b,S b->¬W b)/\o.φ W B S H p
end
def EE.ow{W B:Addr->Prop}{H:Hp}{σ:St}(e:#v[41])(i:Nat)(l:List U)(h:ρ[i]? =some (Sl.ow l)∨ρ[i]? =some (Sl.br l)):∃p xs,σ[i]? =some (some (V.ref p))/\¬W p/\H p=some (.lst xs)/\DUs W B H l xs:=by
 obtain⟨p,S,h1,h2,s,xs,h3⟩:∃p S,σ[i]? =some (some (V.ref p))/\(∀b,S b->¬W b)/\(lsO l).φ W B S H p:=h.elim (λh=>e.hd i _ _ h rfl) λh=>e.hd i _ _ h rfl;exact#[p,xs,h1,h2 p ((s p).mpr rfl),h3]
section
variable {W B:Addr->Prop}{H H' H2:Hp}{ρ:EV}{σ:St}
def EB.keep(e:EB W B H)(f:Fw W H H'):∀b o,¬B b->H b=some o->¬B b/\H' b=some o:=λb o n h=>#[n,f.fr b o (λw=>n (e.wb b w)) h]
def EB.dm(e:EB W B H):∀p,B p->H p≠none:=λp h n=>by
 obtain⟨xs,q,_⟩:=e.bl p h;rw[q]at n;cases n
def EB.to(e:EB W B H)(f:Fw W H H'):EB W B H':=by
 refine#[λp hp=>?_,e.wb,f.wo];by_cases w:W p
 ·obtain⟨x,y,z,q⟩:=f.wo p w;exact#[_,q,trivial]
 ·obtain⟨xs,q,m⟩:=e.bl p hp;exact#[xs,f.fr p _ w q,m]
def EB.refl(e:EB W B H):Fw W H H:=#[λ_ _ _ h=>h,e.wo]
def EB.new(e:EB W B H){o:HO}(n:H p=none):Fw W H (upd H p o):=⟨λb u _ h=>by
 rw[aN (aR h n)];exact h,λq hq=>by
 obtain⟨x,y,z,h⟩:=e.wo q hq;exact#[x,y,z,by rw[aN (aR h n)];exact h]⟩
def EB.nw(e:EB W B H)(n:H p=none):¬B p:=λh=>e.dm p h n
def EB.same(e:EB W B H)(s:bAk H H'):Fw W H H':=⟨λb o _ h=>s b o h,λp hp=>by
 obtain⟨x,y,z,h⟩:=e.wo p hp;exact#[x,y,z,s _ _ h]⟩
def Own.to(o:Own){S:Addr->Prop}(e:EB W B H)(f:Fw W H H')(n:∀b,S b->¬W b)(h:o.φ W B S H p):o.φ W B S H' p:=o.mono (e.keep f) (λb hb=>let⟨x,q,_⟩:=o.th h b hb;(f.fr b x (n b hb) q).trans q.symm) h
def Own.less(o:Own)(h:o.φ W (λb=>B b∨T b) S H p):o.φ W B S H p:=o.mono (λ_ _ n h=>#[λz=>n (.inl z),h]) (λ_ _=>rfl) h
def EE.to(e:#v[41])(f:Fw W H H'):EE W B H' ρ σ:=
 #[e.eb.to f,e.len,λi u h=>let⟨v,h1,h2⟩:=e.sh i u h;#[v,h1,DU.mono (e.eb.keep f) u h2],λi s o h hs=>let⟨p,S,h1,h2,h3⟩:=e.hd i s o h hs;#[p,S,h1,h2,o.to e.eb f h2 h3]]
def Fw.none_(f:Fw W H H')(n1:H' p=none):H p=none:=by
 cases hp:H p with
 |none=>rfl
 |some o=>
  by_cases w:W p
  ·obtain⟨_,_,_,z⟩:=f.wo p w;rw[z]at n1;cases n1
  ·rw[f.fr p o w hp]at n1;cases n1
def RO.back(f:Fw W H H')(h:RO W B H' H2 s v):RO W B H H2 s v:=by
 match s,h with
 |.sh u,h=>exact h
 |.ow l,⟨p,xs,e1,n1,h2,h3⟩=>exact#[p,xs,e1,f.none_ n1,h2,h3]
 |.br l,h=>exact h
 |.oo o,⟨p,S,e1,n1,h⟩=>exact#[p,S,e1,λb hb=>f.none_ (n1 b hb),h]
 |.bo o,h=>exact h
def DB.to(h:DB W B H u v)(e:EB W B H)(f:Fw W H H'):DB W B H' u v:=by
 rcases h with h|⟨l,p,xs,e1,e2,w,h1,h2⟩
 ·exact .inl (DU.mono (e.keep f) u h)
 ·exact .inr #[l,p,xs,e1,e2,w,f.fr _ _ w h1,DUs.mono (e.keep f) l h2]
def DUs.less{xs:List V}(h:DUs W (λb=>B b∨b=p) H l xs):DUs W B H l xs:=DUs.mono (λ_ _ n e=>#[λz=>n (.inl z),e]) l h
def RO.db(e:EB W B H)(h:RO W B H H' s v):DB W B H' s.rd v:=by
 match s,h with
 |.sh u,h=>exact .inl h
 |.ow l,⟨p,xs,e1,h1,h2,h3⟩=>exact .inl #[p,xs,e1,e.nw h1,h2,h3.less]
 |.br l,⟨p,xs,e1,h1,h2,h3⟩=>exact .inr #[l,p,xs,rfl,e1,h1,h2,h3]
 |.oo _,_=>exact .inl trivial
 |.bo _,_=>exact .inl trivial
def RO.du{R:U->Prop}(e:EB W B H)(h:RO W B H H' s v)(r:s.es R):∃u,R u/\DU W B H' u v:=by
 match s,h,r with
 |.sh u,h,r=>exact#[u,r,h]
 |.ow l,⟨p,xs,e1,h1,h2,h3⟩,r=>exact#[.ls l,r,p,xs,e1,e.nw h1,h2,h3.less]
 |.oo o,⟨p,S,e1,h1,h2⟩,r=>exact#[.op o.fz,r,p,S,e1,λb hb=>e.nw (h1 b hb),o.less h2]
def DB.int{i:Int}(h:DB W B H (.n i) y):y=.int i:=by
 rcases h with h|⟨l,p,xs,e1,_⟩
 ·exact h.1
 ·cases e1
def DB.fl{x y:V}(h:DB W B H (.v x) y):y=x/\rD x=true:=by
 rcases h with h|⟨l,p,xs,e1,_⟩
 ·exact h
 ·cases e1
def DB.tp(h:DB W B H (.tp l) y):∃p xs,y=.ref p/\¬B p/\H p=some (.tup xs)/\DUs W B H l xs:=by
 rcases h with h|⟨l,p,xs,e1,_⟩
 ·exact h
 ·cases e1
def DB.ob(h:DB W B H (.ob C ns us) y):∃p dx xs,y=.ref p/\¬B p/\H p=some (.ins C dx (ns.zip xs))/\ns.length=xs.length/\DUs W B H us xs:=by
 rcases h with h|⟨l,p,xs,e1,_⟩
 ·exact h
 ·cases e1
def DB.dk(h:DB W B H (.dk ns us) y):∃p xs,y=.ref p/\¬B p/\H p=some (.dK ((ns.map Lq).zip xs))/\ns.length=xs.length/\DUs W B H us xs:=by
 rcases h with h|⟨l,p,xs,e1,_⟩
 ·exact h
 ·cases e1
def DB.ls(e:EB W B H)(h:DB W B H (.ls l) y):∃p xs,y=.ref p/\¬W p/\H p=some (.lst xs)/\DUs W B H l xs:=by
 rcases h with ⟨p,xs,e1,nb,h1,h2⟩|⟨l,p,xs,e1,e2,w,h1,h2⟩
 ·exact#[p,xs,e1,λw=>nb (e.wb p w),h1,h2]
 ·cases e1;exact#[p,xs,e2,w,h1,h2]
end
abbrev TV:=EV->(Sl->Prop)->Prop
def VT(t:TE)(F:TV):Prop:=∀{W B:Addr->Prop}{ρ:EV}{σ:St}{H:Hp}{R:Sl->Prop}{Q:VK},EE W B H ρ σ->F ρ R->(∀s v H',R s->Fw W H H'->RO W B H H' s v->Q v H')->t σ H Q
def VE(X:Cx)(e:Expr)(F:TV):Prop:=∃t,PE X e t/\VT t F
abbrev TVc:=EV->(Bool->Prop)->Prop
def VTc(t:TT)(F:TVc):Prop:=∀{W B:Addr->Prop}{ρ:EV}{σ:St}{H:Hp}{R:Bool->Prop}{Q:Bool->Hp->Prop},EE W B H ρ σ->F ρ R->(∀c H',R c->Fw W H H'->Q c H')->t σ H Q
def VC(X:Cx)(e:Expr)(F:TVc):Prop:=∃t,PT X e t/\VTc t F
def VW(X:Cx)(e:Expr)(F:TVc):Prop:=∃t,PW X e t/\VTc t F
abbrev TVa:=EV->(List U->Prop)->Prop
def VTa(n:Nat)(t:TA)(F:TVa):Prop:=∀{W B:Addr->Prop}{ρ:EV}{σ:St}{H:Hp}{R:List U->Prop}{Q:List V->Hp->Prop},EE W B H ρ σ->F ρ R->(∀us vs H',R us->us.length=n->Fw W H H'->DUs W B H' us vs->Q vs H')->t σ H Q
def VA(X:Cx)(es:List Expr)(F:TVa):Prop:=∃t,PA X es t/\VTa es.length t F
def DBs(W B:Addr->Prop)(H:Hp):List U->List V->Prop
 | [],xs=>xs=[]
 |u::l,xs=>∃x r,xs=x::r/\DB W B H u x/\DBs W B H l r
def DBs.to{W B:Addr->Prop}{H H':Hp}(e:EB W B H)(f:Fw W H H'):∀{us:List U}{vs:List V},DBs W B H us vs->DBs W B H' us vs
 | [],_,h=>h
 |_::_,_,⟨x,r,e1,h,t⟩=>#[x,r,e1,h.to e f,DBs.to e f t]
def VTb(t:TA)(F:TVa):Prop:=∀{W B:Addr->Prop}{ρ:EV}{σ:St}{H:Hp}{R:List U->Prop}{Q:List V->Hp->Prop},EE W B H ρ σ->F ρ R->(∀us vs H',R us->Fw W H H'->DBs W B H' us vs->Q vs H')->t σ H Q
def VB(X:Cx)(es:List Expr)(F:TVa):Prop:=∃t,PA X es t/\VTb t F
def O2(r:R2)(g:#v[Q]):Prop:=∀{W B:Addr->Prop}{H:Hp}{u v:U}{x y:V}{R:Sl->Prop}{Q:VK},EB W B H->DB W B H u x->DB W B H v y->g u v R->(∀s z H',R s->Fw W H H'->RO W B H H' s z->Q z H')->r x y H Q
def CB(r:List V->Hp->VK->Prop)(g:#v[q]):Prop:=∀{W B:Addr->Prop}{H:Hp}{us:List U}{vs:List V}{R:Sl->Prop}{Q:VK},EB W B H->DBs W B H us vs->g us R->(∀s z H',R s->Fw W H H'->RO W B H H' s z->Q z H')->r vs H Q
def aJ8(i:Nat):TV:=λρ R=>match (ρ[i]? :Option Sl)with
 |some (.sh u)=>R (.sh u)
 |some (.ow l)=>R (.br l)
 |some (.br l)=>R (.br l)
 |some (.oo o)=>R (.bo o)
 |some (.bo o)=>R (.bo o)
 |_=>False
def vC(u:U):TV:=λ_ R=>R (.sh u)
def vOp(g:#v[Q])(a b:TV):TV:=λρ R=>a ρ λs=>b ρ λs'=>g s.rd s'.rd R
def mV(F:TV):TVc:=λρ R=>F ρ λs=>match s.rd with
 |.v (.bl c)=>R c
 |_=>False
def aZj(a b:TVc):TVc:=λρ R=>a ρ λc=>(c=true->b ρ R)/\(c=false->R false)
def vOr(a b:TVc):TVc:=λρ R=>a ρ λc=>(c=true->R true)/\(c=false->b ρ R)
def aZv(a:TVc):TVc:=λρ R=>a ρ λc=>R (!c)
def aQs:TVa:=λ_ R=>R []
def aNk(a:TV)(b:TVa):TVa:=λρ R=>a ρ λs=>s.es λu=>b ρ λus=>R (u::us)
def aUx(a:TV)(b:TVa):TVa:=λρ R=>a ρ λs=>b ρ λus=>R (s.rd::us)
def aY5(a:TVa):TV:=λρ R=>a ρ λus=>R (.sh (.tp us))
def bBh(a:TVa):TV:=λρ R=>a ρ λus=>R (.ow us)
def aYv(F:#v[q])(a:TVa):TV:=λρ R=>a ρ λus=>F us R
inductive bAg(F:#v[q])(vs:List V)(H:Hp)(Q:VK)(z3_:XK):Prop
 |mk (W B us R:_) (q0_:EB W B H) (q1_:DUs W B H us vs) (q2_:F us R) (q3_:#v[31]):bAg F vs H Q z3_
def spV(F:#v[q]):Sp:=λvs H Q z3_=>bAg F vs H Q z3_
def aA(i:Nat){x:Str}(hN:X.N[i]? =some x:=by rfl)(hv:#v[80]:=by trivial)(hd:ND x:=by decide)
  (hcd:NC x:=by decide):VE X (.Name x pos) (aJ8 i):=⟨_,pA hN hv hd hcd,λ{W B ρ σ H R Q} e h q=>by
 unfold aJ8 at h;split at h
 ·rename_i u hu;obtain⟨v,h1,h2⟩:=e.sh i u hu;exact#[v,h1,q _ _ _ h e.eb.refl h2]
 ·rename_i l hu;obtain⟨p,xs,h1,h2,h3,h4⟩:=e.ow i l (.inl hu);exact#[_,h1,q _ _ _ h e.eb.refl #[p,xs,rfl,h2,h3,h4]]
 ·rename_i l hu;obtain⟨p,xs,h1,h2,h3,h4⟩:=e.ow i l (.inr hu);exact#[_,h1,q _ _ _ h e.eb.refl #[p,xs,rfl,h2,h3,h4]]
 ·rename_i o hu;obtain⟨p,S,h1,h2,h3⟩:=e.hd i _ o hu rfl;exact#[_,h1,q _ _ _ h e.eb.refl #[p,S,rfl,h2,h3]]
 ·rename_i o hu;obtain⟨p,S,h1,h2,h3⟩:=e.hd i _ o hu rfl;exact#[_,h1,q _ _ _ h e.eb.refl #[p,S,rfl,h2,h3]]
 ·exact h.elim⟩
def aMq{x:V}(f:rD x=true):VT (tC x) (vC (.v x)):=λe h q=>q _ _ _ h e.eb.refl #[rfl,f]
def aH{i j pos}:VE X (.Constant (.int i) j pos) (vC (.n i)):=#[_,dU,aMq rfl]
def qM{x j pos}:VE X (.Constant (.str x) j pos) (vC (.s x)):=#[_,aXa,aMq rfl]
def jK{b j pos}:VE X (.Constant (.bool b) j pos) (vC (.b b)):=#[_,aZi,aMq rfl]
def rM{j pos}:VE X (.Constant .none j pos) (vC .no):=#[_,aVi,aMq rfl]
def aJf{r:R2}{g:#v[Q]}{ta tb:TE}{F G:TV}(o:O2 r g)(ha:VT ta F)(hb:VT tb G):VT (tOp r ta tb) (vOp g F G):=λe h q=>by
 refine ha e h λs v H1 h1 f1 r1=>?_;have e1:=e.to f1;refine hb e1 h1 λs' v' H2 h2 f2 r2=>?_;refine o (e1.to f2).eb ((r1.db e.eb).to e1.eb f2) (r2.db e1.eb) h2 λs3 z H3 h3 f3 r3=>?_;exact q _ _ _ h3 (#v[50].trans f3) (r3.back #v[50])
def cT{op:Operator}{r:R2}{g:#v[Q]}{a b:Expr}{F G:TV}(ho:OpR X (binaryOp op) r)(o:O2 r g)(ha:VE X a F)(hb:VE X b G):VE X (.BinOp a op b pos) (vOp g F G):=
 let⟨_,p,f⟩:=ha;let⟨_,p',f'⟩:=hb;#[_,jU ho p p',aJf o f f']
def bH{r:R2}{g:#v[Q]}{a b:Expr}{F G:TV}(ho:IxR X r)(o:O2 r g)(ha:VE X a F)(hb:VE X b G)(hs:yQ b:=by exactλ_ _=>rfl):VE X (.Subscript a b pos) (vOp g F G):=
 let⟨_,p,f⟩:=ha;let⟨_,p',f'⟩:=hb;#[_,tR ho p p' hs,aJf o f f']
def iB{op:CmpOp}{r:R2}{g:#v[Q]}{a b:Expr}{F G:TV}(ho:#v[54])(o:O2 r g)(ha:VE X a F)(hb:VE X b G)(hm:behindInMarks op b=false:=by first|exact aEd _|rfl):VE X (.Compare a [op] [b] pos) (vOp g F G):=
 let⟨_,p,f⟩:=ha;let⟨_,p',f'⟩:=hb;#[_,aRp ho p p' hm,aJf o f f']
def yU{F:TV}(h:VT t F):VTc (aN4 t) (mV F):=λe h1 q=>h e h1 λs v H1 h2 f r=>by
 have d:=r.db e.eb;revert h2 d;generalize s.rd=u;intro h2 d;split at h2
 ·exact#[_,d.fl.1,q _ _ h2 f]
 ·exact h2.elim
def bK{op:CmpOp}{r:R2}{g:#v[Q]}{a b:Expr}{F G:TV}(ho:#v[54])(o:O2 r g)(ha:VE X a F)(hb:VE X b G)(hm:behindInMarks op b=false:=by first|exact aEd _|rfl):VC X (.Compare a [op] [b] pos) (mV (vOp g F G)):=
 let⟨_,p,f⟩:=ha;let⟨_,p',f'⟩:=hb;#[_,aCy ho p p' hm,yU (aJf o f f')]
def cI{F:TV}(ha:VE X a F)(he:∀whole,isTrue a X.env whole=(do let v<-whole;standAt a.pos;holding [v] (truthy v)):=by intro _;rfl):VC X a (mV F):=
 let⟨_,p,f⟩:=ha;#[_,aVr p he,yU f]
def cH{F:TVc}(ha:VC X a F):VC X (.UnaryOp .Not a pos) (aZv F):=let⟨_,p,f⟩:=ha;#[_,aX3 p,λe h q=>f e h λc H1 h1 f1=>q _ _ h1 f1]
def iD{F:TVc}(ha:VW X a F):VC X a F:=let⟨_,p,f⟩:=ha;#[_,p.pt,f]
def aIw{F:TVc}(ha:VC X a F):VW X (.BoolOp .And [a] pos) F:=let⟨_,p,f⟩:=ha;#[_,aRr p,f]
def fB{F:TVc}(ha:VC X a F):VW X (.BoolOp .Or [a] pos) F:=let⟨_,p,f⟩:=ha;#[_,aXo p,f]
def aPo{a b:Expr}{F G:TVc}(ha:VC X a F)(hb:VW X (.BoolOp .And (b::rest) pos) G):VW X (.BoolOp .And (a::b::rest) pos) (aZj F G):=
 let⟨_,p,f⟩:=ha;let⟨_,p',f'⟩:=hb;⟨_,aVa p p',λe h q=>f e h λc H1 h1 f1=>by
  cases c with
  |true=>exact aEe (f' (e.to f1) (h1.1 rfl) λc H2 h2 f2=>q _ _ h2 #v[50])
  |false=>exact rG (q _ _ (h1.2 rfl) f1)⟩
def jA{a b:Expr}{F G:TVc}(ha:VC X a F)(hb:VW X (.BoolOp .Or (b::rest) pos) G):VW X (.BoolOp .Or (a::b::rest) pos) (vOr F G):=
 let⟨_,p,f⟩:=ha;let⟨_,p',f'⟩:=hb;⟨_,aYh p p',λe h q=>f e h λc H1 h1 f1=>by
  cases c with
  |true=>exact aEe (q _ _ (h1.1 rfl) f1)
  |false=>exact rG (f' (e.to f1) (h1.2 rfl) λc H2 h2 f2=>q _ _ h2 #v[50])⟩
def vB(F:TVc):TV:=λρ R=>F ρ λc=>R (.sh (.b c))
def aNe{F:TV}{ρ:EV}{σ:St}{W B:Addr->Prop}{H:Hp}{Q:VK}(f:VT t F)(e:#v[41])(h:mV F ρ R)(q:∀c H1,R c->Fw W H H1->Q (.bl c) H1):t σ H Q:=f e h λs v H1 h1 f1 r=>by
 have d:=r.db e.eb;revert h1 d;generalize s.rd=u;intro h2 d;split at h2
 ·rw[d.fl.1];exact q _ _ h2 f1
 ·exact h2.elim
def lV{a b:Expr}{F G:TV}(ha:VE X a F)(hb:VE X (.BoolOp .And (b::rest) pos) G):VE X (.BoolOp .And (a::b::rest) pos) (vB (aZj (mV F) (mV G))):=
 let⟨ta,p,f⟩:=ha;let⟨_,p',f'⟩:=hb;⟨_,aU9 p p',λe h q=>show ta _ _ _ from aNe f e h λc H1 h1 f1=>by
  refine#[c,rfl,?_];cases c with
  |true=>exact aEe (aNe f' (e.to f1) (h1.1 rfl) λc H2 h2 f2=>q _ _ _ h2 #v[50] #[rfl,rfl])
  |false=>exact rG (q _ _ _ (h1.2 rfl) f1 #[rfl,rfl])⟩
def bAc{a b:Expr}{F G:TV}(ha:VE X a F)(hb:VE X (.BoolOp .Or (b::rest) pos) G):VE X (.BoolOp .Or (a::b::rest) pos) (vB (vOr (mV F) (mV G))):=
 let⟨ta,p,f⟩:=ha;let⟨_,p',f'⟩:=hb;⟨_,bAq p p',λe h q=>show ta _ _ _ from aNe f e h λc H1 h1 f1=>by
  refine#[c,rfl,?_];cases c with
  |true=>exact aEe (q _ _ _ (h1.1 rfl) f1 #[rfl,rfl])
  |false=>exact rG (aNe f' (e.to f1) (h1.2 rfl) λc H2 h2 f2=>q _ _ _ h2 #v[50] #[rfl,rfl])⟩
def aWp{F:TV}(ha:VE X a F):VE X (.UnaryOp .Not a pos) (vB (aZv (mV F))):=
 let⟨ta,p,f⟩:=ha;#[_,aV7 p,λe h q=>show ta _ _ _ from aNe f e h λc H1 h1 f1=>#[c,rfl,q _ _ _ h1 f1 #[rfl,rfl]]]
def aF:VA X [] aQs:=#[_,dN,λe h q=>q _ _ _ h rfl e.eb.refl rfl]
def aB{es:List Expr}{F:TV}{G:TVa}(ha:VE X a F)(hb:VA X es G)(hs:SE X a es:=by rfl):VA X (a::es) (aNk F G):=
 let⟨_,p,f⟩:=ha;let⟨_,p',f'⟩:=hb;⟨_,bZ p p' hs,λe h q=>f e h λs v H1 h1 f1 r1=>by
  obtain⟨u,h1,d⟩:=r1.du e.eb h1;exact f' (e.to f1) h1 λus vs H2 h2 l2 f2 d2=>q _ _ _ h2 (by rw[Am,l2];rfl) #v[50] #[v,vs,rfl,DU.mono ((e.to f1).eb.keep f2) u d,d2]⟩
def aM:VB X [] aQs:=#[_,dN,λe h q=>q _ _ _ h e.eb.refl rfl]
def aJ{es:List Expr}{F:TV}{G:TVa}(ha:VE X a F)(hb:VB X es G)(hs:SE X a es:=by rfl):VB X (a::es) (aUx F G):=
 let⟨_,p,f⟩:=ha;let⟨_,p',f'⟩:=hb;⟨_,bZ p p' hs,λe h q=>f e h λs v H1 h1 f1 r1=>
  f' (e.to f1) h1 λus vs H2 h2 f2 d2=>q _ _ _ h2 #v[50] #[v,vs,rfl,(r1.db e.eb).to (e.to f1).eb f2,d2]⟩
def dM{es:List Expr}{x1}{F:TVa}(h:VA X es F)(hl:es.length<=100:=by decide):VE X (.Tuple es x1 pos) (aY5 F):=
 let⟨_,p,f⟩:=h;⟨_,aX0 p,λe h q=>f e h λus vs H1 h1 l1 f1 d=>⟨by
  have:=d.length;have:(100:Nat)<=sizeLine:=by decide
  lia,λp n=>by
  have e1:=(e.to f1).eb;have f2:=e1.new (o:=.tup vs) n;exact q _ _ _ h1 #v[50] #[p,vs,rfl,e1.nw n,aP,DUs.mono (e1.keep f2) us d]⟩⟩
def bL{es:List Expr}{F:TVa}(h:VA X es F)(hl:es.length<=100:=by decide):VE X (.List es pos) (bBh F):=
 let⟨_,p,f⟩:=h;⟨_,aD3 p,λ{W B ρ σ H R Q} e h q=>f e h λus vs H1 h1 l1 f1 d=>⟨by
  have:=d.length;have:(100:Nat)<=sizeLine:=by decide
  lia,λp n=>by
  have e1:=(e.to f1).eb;have f2:=e1.new (o:=.lst vs) n;exact q _ _ _ h1 #v[50] (RO.back (s:=.ow us) f1 #[p,vs,rfl,n,aP,DUs.mono (λb o nb h=>#[λz=>z.elim nb (aR h n),(e1.keep f2 b o nb h).2]) us d])⟩⟩
def aL{x:Str}{F:#v[q]}{es:List Expr}{G:TVa}{p pos:Pos}(C:#v[100])(hr:eY k X.A)(hg:Gl X x)
  (ha:VA X (a::es) G) (hdb:ND x:=by decide) (he:SE X a es:=by rfl) (hpl:BT X pos es:=by rfl):
  VE X #v[51] (aYv F G):=
 let⟨_,p,f⟩:=ha;⟨_,aWi C hr hg aB4 p hdb he hpl,λe h q=>f e h λus vs H1 h1 l1 f1 d=>by
  refine#[_,_,us,_,(e.to f1).eb,(by rw[Bb];exact d),h1,λs v H2 h2 f2 r2=>q _ _ _ h2 #v[50] (r2.back f1)]⟩
structure Cfl(K:Ad)(C:Addr)(fs:List Str):Prop where
 cl:Cls K C
 na:∀f∈fs,mU K C f
def aBa(f:Str):List Str->List U->(Sl->Prop)->Prop
 |n::ns,u::us,R=>(n=f/\R (.sh u))∨(n≠f/\aBa f ns us R)
 |_,_,_=>False
theorem aJo{W B:Addr->Prop}{H:Hp}{f:Str}{R:Sl->Prop}:∀{ns:List Str}{us:List U}{xs:List V},DUs W B H us xs->aBa f ns us R->∃u v,R (.sh u)/\DU W B H u v/\(ns.zip xs).lookup f=some v
 |_::_,u::us,_,⟨x,r,e,h,t⟩,q=>by
  subst e;rcases q with ⟨rfl,q⟩|⟨n,q⟩
  ·exact#[u,x,q,h,by simp[Bk]]
  ·obtain⟨u',v,h1,h2,h3⟩:=aJo t q;refine#[u',v,h1,h2,?_];rw[Ly,Bk,show(f==_)=false from beq_eq_false_iff_ne.mpr (Cg n)];exact h3
def vFl(C:Addr)(a:TV)(f:Str):TV:=λρ R=>a ρ λs=>match s.rd with
 |.ob C' ns us=>C'=C/\aBa f ns us R
 |_=>False
def dW{fs:List Str}{f:Str}{F:TV}(c:Cfl X.K C fs)(ha:VE X a F)(hf:f∈fs:=by decide)(hb:attributeBase a f X.env (eval a X.env)=eval a X.env:=by rfl):VE X (.Attribute a f pos) (vFl C F f):=
 let⟨_,p,g⟩:=ha;⟨_,aVm p hb,λe h q=>g e h λs v H1 h1 f1 r1=>by
  have d:=r1.db e.eb;revert h1 d;generalize s.rd=u;intro h1 d;split at h1
  ·obtain⟨rfl,h1⟩:=h1;obtain⟨p,dx,xs,rfl,_,hp,hl,ds⟩:=d.ob;obtain⟨u,v,h2,h3,h4⟩:=aJo ds h1;exact#[p,_,dx,_,v,rfl,hp,c.cl,c.na f hf,h4,q _ _ _ h2 f1 h3]
  ·exact h1.elim⟩
def mOb(Cs:Addr->Prop)(m:Str)(F:Addr->List U->(Sl->Prop)->Prop)(G:TVa)(ρ:EV)(R:Sl->Prop):U->Prop
 |.ob C ns us=>Cs C/\ns.elem m=false/\G ρ λvs=>F C (.ob C ns us::vs) R
 |_=>False
def aU4(Cs:Addr->Prop)(m:Str)(F:Addr->List U->(Sl->Prop)->Prop)(a:TV)(G:TVa):TV:=λρ R=>a ρ λs=>s.es (mOb Cs m F G ρ R)
theorem aIi:∀{ns:List Str}{xs:List V},ns.elem m=false->(ns.zip xs).lookup m=none
 | [],_,_=>by simp
 |_::_,[],_=>by simp
 |n::ns,x::xs,h=>by
  simp only[List.elem_cons]at h;rw[Ly,Bk];cases e:m==n with
  |true=>rw[e]at h;cases h
  |false=>
   rw[e]at h;exact aIi h
def aI6{m:Str}{F:Addr->List U->(Sl->Prop)->Prop}{o a:Expr}{es:List Expr}{apos pos:Pos}{Fo:TV}{G:TVa}{pl:Sem Bool}(ho:VE X o Fo)(D:Dis X.prog X.w X.K X.mg X.base CX0 k Cs m ps λC=>spV (F C))(hr:eY k X.A)(ha:VA X (a::es) G)
  (hst:SE X a es:=by rfl) (hpl:BT X pos es:=by rfl)
  (ht:eval (.Call #v[68] (a::es) [] pos) X.env=(do
   let ov<-eval o X.env
   standAt apos.atName
   let(f,first)<-holding [ov] (getMethod ov m pl)
   callWith pos f first (backTo pos (starEach (a::es) X.env)) (backToKw pos #v[30])):=by rfl):
  VE X (.Call #v[68] (a::es) [] pos) (aU4 Cs m F Fo G):=
 let⟨_,p,g⟩:=ho;let⟨_,p',g'⟩:=ha;⟨_,aQr p D hr aB4 p' hst hpl ht,λe h q=>g e h λs v H1 h1 f1 r1=>by
  obtain⟨u,h1,d⟩:=r1.du e.eb h1;match u,h1,d with
  |.ob C ns us,⟨hC,hm,h1⟩,d=>
   obtain⟨p,dx,xs,rfl,nb,hp,hl,ds⟩:=id d;refine#[p,C,dx,_,rfl,hp,hC,aIi hm,g' (e.to f1) h1 λvs ws H2 h2 _ f2 d2=>?_];have e2:=(e.to f1).eb;exact#[_,_,.ob C ns us::vs,_,e2.to f2,#[_,_,rfl,DU.mono (e2.keep f2) _ d,d2],h2,λs v H3 h3 f3 r3=>q _ _ _ h3 (#v[50].trans f3) (r3.back #v[50])]⟩
def cC{m:Str}{F:Addr->List U->(Sl->Prop)->Prop}{o:Expr}{apos pos:Pos}{Fo:TV}{pl:Sem Bool}(ho:VE X o Fo)(D:Dis X.prog X.w X.K X.mg X.base CX0 k Cs m ps λC=>spV (F C))(hr:eY k X.A)
  (ht:eval (.Call #v[68] [] [] pos) X.env=(do
   let ov<-eval o X.env
   standAt apos.atName
   let(f,first)<-holding [ov] (getMethod ov m pl)
   callWith pos f first (backTo pos (starEach [] X.env)) (backToKw pos #v[30])):=by rfl):
  VE X (.Call #v[68] [] [] pos) (aU4 Cs m F Fo aQs):=
 let⟨_,p,g⟩:=ho;⟨_,aL8 p D hr aB4 ht,λe h q=>g e h λs v H1 h1 f1 r1=>by
  obtain⟨u,h1,d⟩:=r1.du e.eb h1;match u,h1,d with
  |.ob C ns us,⟨hC,hm,h1⟩,d=>
   obtain⟨p,dx,xs,rfl,nb,hp,hl,ds⟩:=id d;exact#[p,C,dx,_,rfl,hp,hC,aIi hm,_,_,[.ob C ns us],_,(e.to f1).eb,#[_,_,rfl,d,rfl],h1,λs v H3 h3 f3 r3=>q _ _ _ h3 (f1.trans f3) (r3.back f1)]⟩
def gI(f:Int->Int->V):U->U->(Sl->Prop)->Prop
 |.v (.int i),.v (.int j),R=>R (.sh (.v (f i j)))
 |_,_,_=>False
def gIC(C:Int->Int->Prop)(f:Int->Int->V):U->U->(Sl->Prop)->Prop
 |.v (.int i),.v (.int j),R=>C i j/\R (.sh (.v (f i j)))
 |_,_,_=>False
def cU(hf:∀i j,rD (f i j)=true:=by intros;rfl):O2 (rI0 f) (gI f):=λ{W B H u v x y R Q} e d1 d2 h q=>by
 unfold gI at h;split at h
 ·rename_i i j;exact#[i,j,d1.int,d2.int,q _ _ _ h e.refl #[rfl,hf i j]]
 ·exact h.elim
def aGd{C:Int->Int->Prop}(hf:∀i j,rD (f i j)=true:=by intros;rfl):O2 (rI C f) (gIC C f):=λ{W B H u v x y R Q} e d1 d2 h q=>by
 unfold gIC at h;split at h
 ·rename_i i j;exact#[i,j,d1.int,d2.int,h.1,q _ _ _ h.2 e.refl #[rfl,hf i j]]
 ·exact h.elim
def aRx{α β:Type}{xs:List α}{ys:List β}{i:Int}{x:α}(e:xs.length=ys.length)(h:atI xs i=some x):∃(j:Nat)(y:β),xs[j]? =some x/\ys[j]? =some y/\atI ys i=some y:=by
 unfold atI at h⊢;rw[<-e];cases q:ixN xs.length i with
 |none=>rw[q]at h;cases h
 |some j=>
  rw[q]at h;have h':xs[j]? =some x:=h;have hj:=(List.getElem?_eq_some_iff.mp h').1;exact#[j,_,h',Ag (by rw[<-e];exact hj),Ag (by rw[<-e];exact hj)]
def DUs.atI{W B:Addr->Prop}{H:Hp}{l:List U}{xs:List V}{i:Int}{u:U}(d:DUs W B H l xs)(h:atI l i=some u):∃x,L2.atI xs i=some x/\DU W B H u x:=by
 obtain⟨j,x,h1,h2,h3⟩:=aRx d.length h;obtain⟨y,h4,h5⟩:=d.get h1;rw[h2]at h4;cases h4;exact#[x,h3,h5]
def aYl:U->U->(Sl->Prop)->Prop
 |.ls l,.v (.int i),R=>∃u,atI l i=some u/\R (.sh u)
 |_,_,_=>False
def aYk:U->U->(Sl->Prop)->Prop
 |.tp l,.v (.int i),R=>∃u,atI l i=some u/\R (.sh u)
 |_,_,_=>False
def aXn{K:Ad}:O2 (aWf K) aYl:=λ{W B H u v x y R Q} e d1 d2 h q=>by
 unfold aYl at h;split at h
 ·obtain⟨w,h1,h2⟩:=h;obtain⟨p,xs,rfl,_,hp,ds⟩:=d1.ls e;obtain⟨z,h3,h4⟩:=ds.atI h1;exact#[p,xs,_,z,rfl,d2.int,SqL.of hp,h3,q _ _ _ h2 e.refl h4]
 ·exact h.elim
def aVn{K:Ad}:O2 (aXs K) aYk:=λ{W B H u v x y R Q} e d1 d2 h q=>by
 unfold aYk at h;split at h
 ·obtain⟨w,h1,h2⟩:=h;obtain⟨p,xs,rfl,_,hp,ds⟩:=d1.tp;obtain⟨z,h3,h4⟩:=ds.atI h1;exact#[p,xs,_,z,rfl,d2.int,SqT.of hp,h3,q _ _ _ h2 e.refl h4]
 ·exact h.elim
mutual
def U.d:U->D
 |.v x=> .fl x
 |.tp l=> .tp (U.ds l)
 |.ls l=> .ls (U.ds l)
 |_=> .fl .non
def U.ds:List U->List D
 | []=>[]
 |u::l=>U.d u::U.ds l
end
mutual
def U.dt:Nat->U->Prop
 |_,.v _=>True
 |n+1,.tp l=>U.dts n l
 |n+1,.ls l=>U.dts n l
 |_,_=>False
def U.dts:Nat->List U->Prop
 |_,[]=>True
 |n,u::l=>U.dt n u/\U.dts n l
end
section
variable {W B:Addr->Prop}{H:Hp}{K:Ad}
mutual
theorem DU.den:∀(n:Nat)(u:U){v:V},u.dt n->DU W B H u v->Den K H u.d v
 |_,.v _,_,_,h=>h
 |n+1,.tp l,_,t,⟨p,xs,e,_,hp,ds⟩=>#[p,xs,e,SqT.of hp,DUs.dens n l t ds]
 |n+1,.ls l,_,t,⟨p,xs,e,_,hp,ds⟩=>#[p,xs,e,SqL.of hp,DUs.dens n l t ds]
theorem DUs.dens:∀(n:Nat)(l:List U){xs:List V},U.dts n l->DUs W B H l xs->xJ K H (U.ds l) xs
 |_,[],_,_,h=>h
 |n,u::l,_,⟨t,t'⟩,⟨x,r,e,h,h'⟩=>#[x,r,e,DU.den n u t h,DUs.dens n l t' h']
end
mutual
theorem U.dep:∀(n:Nat)(u:U),u.dt n->u.d.dep<=n
 |_,.v _,_=>Bg _
 |n+1,.tp l,t=>Tc (U.deps n l t)
 |n+1,.ls l,t=>Tc (U.deps n l t)
theorem U.deps:∀(n:Nat)(l:List U),U.dts n l->D.deps (U.ds l)<=n
 |_,[],_=>Bg _
 |n,u::l,⟨t,t'⟩=>Nat.max_le.mpr #[U.dep n u t,U.deps n l t']
end
def DB.den(t:u.dt n)(h:DB W B H u v):Den K H u.d v:=by
 rcases h with h|⟨l,p,xs,rfl,rfl,w,h1,h2⟩
 ·exact DU.den n u t h
 ·match n,t with
  |n+1,t=>exact#[p,xs,rfl,SqL.of h1,DUs.dens n l t h2]
end
def U.eq(u v:U):Bool:=u.d.eq v.d
def gEq(neg:Bool):U->U->(Sl->Prop)->Prop:=λu v R=>u.dt 40/\v.dt 40/\R (.sh (.b (if neg then !u.eq v else u.eq v)))
def dD{K:Ad}{neg:Bool}:O2 (aWd K neg) (gEq neg):=λ{W B H u v x y R Q} e d1 d2 ⟨t1,t2,h⟩ q=>by
 have h1:=U.dep 40 u t1;have h2:=U.dep 40 v t2;exact#[u.d,v.d,d1.den t1,d2.den t2,∅,q _ _ _ h e.refl #[rfl,rfl]]
structure tY where
 nx:EV->Prop
 rt:Sl->Prop
 bk:EV->Prop:=λ_=>False
 ct:EV->Prop:=λ_=>False
 mr:EV->U->Prop:=λ_ _=>False
abbrev TVS:=tY->EV->Prop
def Bx(B:Addr->Prop)(A:#v[96])(p:Addr):Prop:=B p∨∃i,A i p
def Sl.brd:Sl->Bool
 |.br _=>true
 |.bo _=>true
 |_=>false
structure EO(W B:Addr->Prop)(H0:Hp)(A:#v[96])(ρ:EV)(σ:St)(H:Hp):Prop where
 eb:EB W B H0
 fw:Fw W H0 H
 len:ρ.length=σ.length
 an:∀i p,A i p->H0 p=none
 aw:∀i p,A i p->∃o,H p=some o/\Mt o
 inj:∀i j p,A i p->A j p->i=j
 sh:∀(i:Nat)(u:U),ρ[i]? =some (Sl.sh u)->∃v,σ[i]? =some (some v)/\DU W (Bx B A) H u v
 hd:∀(i:Nat)(s:Sl)(w:Own),ρ[i]? =some s->s.hold=some w->∃p,σ[i]? =some (some (V.ref p))/\w.φ W (Bx B A) (A i) H p
 nb:∀(i:Nat)(s:Sl),ρ[i]? =some s->s.brd=false
def EO.ow{W B:Addr->Prop}{H0 H:Hp}{A:#v[96]}{σ:St}(o:#v[A])(i:Nat)(l:List U)(h:ρ[i]? =some (Sl.ow l)):∃p xs,σ[i]? =some (some (V.ref p))/\(∀b,A i b↔b=p)/\H p=some (.lst xs)/\DUs W (Bx B A) H l xs:=let⟨p,h1,h2,xs,h3⟩:=o.hd i _ _ h rfl;#[p,xs,h1,h2,h3]
structure bBg(W B:Addr->Prop)(H0:Hp)(E:tY)(D:Ends):Prop where
 nx:∀{A ρ σ H},EO W B H0 A ρ σ H->E.nx ρ->D.nx σ H
 bk:∀{A ρ σ H},EO W B H0 A ρ σ H->E.bk ρ->D.bk σ H
 ct:∀{A ρ σ H},EO W B H0 A ρ σ H->E.ct ρ->D.ct σ H
 rt:∀{s v H},Fw W H0 H->RO W B H0 H s v->E.rt s->D.rt v H
 mr:∀{A ρ σ H u v},EO W B H0 A ρ σ H->DU W (Bx B A) H u v->E.mr ρ u->D.rt v H
def VTs(t:TS)(G:TVS):Prop:=∀{W B:Addr->Prop}{H0:Hp}{A:#v[96]}{ρ:EV}{σ:St}{H:Hp}{E:tY}{D:Ends},EO W B H0 A ρ σ H->G E ρ->bBg W B H0 E D->t D σ H
def VS(X:Cx)(st:Stmt)(G:TVS):Prop:=∃t,PS X st t/\VTs t G
def VSs(X:Cx)(st:List Stmt)(G:TVS):Prop:=∃t,PSs X st t/\VTs t G
section
variable {W B:Addr->Prop}{H0 H H1:Hp}{A:#v[96]}{ρ:EV}{σ:St}
def EO.now(o:#v[A])(h:H0 p=none):¬B p:=λz=>o.eb.dm p z h
def EO.awn(o:#v[A])(h:A i p):H p≠none:=λn=>by
 obtain⟨xs,q,_⟩:=o.aw i p h;rw[q]at n;cases n
def EO.nw(o:#v[A])(h:A i p):¬W p:=λz=>o.now (o.an i p h) (o.eb.wb p z)
def EO.ee(o:#v[A]):EE W (Bx B A) H ρ σ:=
 #[#[λp h=>h.elim ((o.eb.to o.fw).bl p) λ⟨i,h⟩=>o.aw i p h,λp w=> .inl (o.eb.wb p w),o.fw.wo],o.len,o.sh,λi s w h hs=>let⟨p,h1,h3⟩:=o.hd i s w h hs;#[p,_,h1,λ_=>o.nw,h3]]
def EO.to(o:#v[A])(f:Fw W H H1):EO W B H0 A ρ σ H1:=by
 have e:=o.ee;have e1:=e.to f;refine#[o.eb,o.fw.trans f,o.len,o.an,λi p h=>e1.eb.bl p (.inr #[i,h]),o.inj,e1.sh,λi s w h hs=>?_,o.nb];obtain⟨p,h1,h3⟩:=o.hd i s w h hs;exact#[p,h1,w.to e.eb f (λ_=>o.nw) h3]
def bT{α:Type}{l:List α}{i j:Nat}{x y:α}(h:(l.set i x)[j]? =some y):(j=i/\y=x/\i<l.length)∨(j≠i/\l[j]? =some y):=by
 rw[Jw]at h;split at h
 ·rename_i e;split at h
  ·cases h;exact .inl #[e.symm,rfl,by assumption]
  ·cases h
 ·rename_i e;exact .inr #[λz=>e z.symm,h]
def get_set{α:Type}{l:List α}{x:α}(h:i<l.length):(l.set i x)[i]? =some x:=by rw[Jw];simp[h]
def fX{α:Type}{l:List α}{i j:Nat}{x:α}(h:j≠i):(l.set i x)[j]? =l[j]? :=by rw[Jw,if_neg (Cg h)]
def EO.kp:∀b o,¬Bx B A b->H b=some o->¬Bx B (λj q=>j≠i/\A j q) b/\H b=some o:=λb o n h=>#[λz=>n (z.elim .inl λ⟨j,h⟩=> .inr #[j,h.2]),h]
def Own.at_(w:Own)(h:w.φ W B S H p)(e:∀b,T b↔S b):w.φ W B T H p:=by
 rw[show T=S from funext λb=>propext (e b)];exact h
def aDi{i j:Nat}(n:j≠i):∀b,(j≠i/\A j b)↔A j b:=λ_=>#[λh=>h.2,λh=>#[n,h]]
def EO.setSh(o:#v[A]){u:U}(d:DU W (Bx B A) H u v):EO W B H0 (λj q=>j≠i/\A j q) (ρ.set i (.sh u)) (σ.set i (some v)) H:=by
 refine#[o.eb,o.fw,by rw[Bs,Bs,o.len],λj p h=>o.an j p h.2,λj p h=>o.aw j p h.2,λj j' p h h'=>o.inj j j' p h.2 h'.2,λj u' h=>?_,λj s w h hs=>?_,λj s h=>?_]
 ·rcases bT h with ⟨rfl,e,hl⟩|⟨ne,h⟩
  ·cases e;exact#[v,get_set (o.len▸hl),DU.mono EO.kp u d]
  ·obtain⟨v',h1,h2⟩:=o.sh j u' h;exact#[v',by rw[fX ne];exact h1,DU.mono EO.kp u' h2]
 ·rcases bT h with ⟨rfl,rfl,hl⟩|⟨ne,h⟩
  ·cases hs
  ·obtain⟨p,h1,h3⟩:=o.hd j s w h hs;exact#[p,by rw[fX ne];exact h1,w.at_ (w.mono EO.kp (λ_ _=>rfl) h3) (aDi ne)]
 ·rcases bT h with ⟨rfl,rfl,hl⟩|⟨ne,h⟩
  ·rfl
  ·exact o.nb j s h
def EO.setOo(o:#v[A])(f:Fw W H H1){s:Sl}{w:Own}{S:Addr->Prop}(hs:s.hold=some w)(hb:s.brd=false)(n:∀b,S b->H b=none)(d:w.φ W (λb=>Bx B A b∨S b) S H1 p):
  EO W B H0 (λj q=>(j=i/\S q)∨(j≠i/\A j q)) (ρ.set i s) (σ.set i (some (.ref p))) H1:=by
 have o1:=o.to f;have k0:∀b o,¬(Bx B A b∨S b)->H1 b=some o->¬Bx B (λj q=>(j=i/\S q)∨(j≠i/\A j q)) b/\H1 b=some o:=λb o n h=>#[λz=>n (z.elim (λz=> .inl (.inl z)) λ⟨j,h⟩=>h.elim (λz=> .inr z.2) λz=> .inl (.inr #[j,z.2])),h];have k:∀b o,¬Bx B A b->H b=some o->¬Bx B (λj q=>(j=i/\S q)∨(j≠i/\A j q)) b/\H1 b=some o:=λb x nb h=>k0 b x (λz=>z.elim nb λz=>by rw[n b z]at h;cases h) (o.ee.eb.keep f b x nb h).2;refine#[o.eb,o1.fw,by rw[Bs,Bs,o.len],λj q h=>?_,λj q h=>?_,λj j' q h h'=>?_,λj u' h=>?_,λj s' w' h hs'=>?_,λj s' h=>?_]
 ·rcases h with ⟨_,h⟩|⟨_,h⟩
  ·exact o.fw.none_ (n q h)
  ·exact o.an j q h
 ·rcases h with ⟨_,h⟩|⟨_,h⟩
  ·exact w.th d q h
  ·exact o1.aw j q h
 ·rcases h with ⟨e1,e2⟩|⟨_,h⟩
  ·rcases h' with ⟨e3,_⟩|⟨_,h'⟩
   ·rw[e1,e3]
   ·exact(o.awn h' (n q e2)).elim
  ·rcases h' with ⟨_,e3⟩|⟨_,h'⟩
   ·exact(o.awn h (n q e3)).elim
   ·exact o.inj j j' q h h'
 ·rcases bT h with ⟨rfl,rfl,hl⟩|⟨ne,h⟩
  ·cases hs
  ·obtain⟨v',h1,h2⟩:=o.sh j u' h;exact#[v',by rw[fX ne];exact h1,DU.mono k u' h2]
 ·rcases bT h with ⟨rfl,rfl,hl⟩|⟨ne,h⟩
  ·rw[hs]at hs';cases hs';exact#[p,get_set (o.len▸hl),w.at_ (w.mono k0 (λ_ _=>rfl) d) λb=>#[λh=>h.elim (λh=>h.2) λh=>absurd rfl h.1,λh=> .inl #[rfl,h]]]
  ·obtain⟨q,h1,h3⟩:=o.hd j s' w' h hs';exact#[q,by rw[fX ne];exact h1,w'.at_ (w'.mono k (λb hb=>let⟨x,hx,_⟩:=w'.th h3 b hb;(f.fr b x (o.nw hb) hx).trans hx.symm) h3) λb=>#[λh=>h.elim (λh=>absurd h.1 ne) λh=>h.2,λh=> .inr #[ne,h]]]
 ·rcases bT h with ⟨rfl,rfl,hl⟩|⟨ne,h⟩
  ·exact hb
  ·exact o.nb j s' h
def EO.setOw(o:#v[A])(f:Fw W H H1){xs:List V}(n:H p=none)(hp:H1 p=some (.lst xs))(d:DUs W (λb=>Bx B A b∨b=p) H1 l xs):
  EO W B H0 (λj q=>(j=i/\q=p)∨(j≠i/\A j q)) (ρ.set i (.ow l)) (σ.set i (some (.ref p))) H1:=o.setOo f (s:=.ow l) (S:=(·=p)) rfl rfl (λb hb=>by rw[hb];exact n) #[λ_=>Kj,xs,hp,d]
end
section
variable {W B:Addr->Prop}{H0 H H1:Hp}{A:#v[96]}{ρ:EV}{σ:St}
def EO.chg(o:#v[A]){s':Sl}{w':Own}{x:HO}{p q:Addr}(hg:σ[i]? =some (some (V.ref p)))(hq:A i q)(hs':s'.hold=some w')(hb:s'.brd=false)(d:w'.φ W (Bx B A) (A i) (upd H q x) p):EO W B H0 A (ρ.set i s') σ (upd H q x):=by
 have k:∀b y,¬Bx B A b->H b=some y->¬Bx B A b/\upd H q x b=some y:=λb y n h=>#[n,(aN (λz:b=q=>n (by rw[z];exact .inr #[i,hq]))).trans h];refine#[o.eb,#[λb y w h=>?_,λr hr=>?_],by rw[Bs,o.len],o.an,λj r h=>?_,o.inj,λj u h=>?_,λj m v h hm=>?_,λj m h=>?_]
 ·rw[aN (aR h (o.an i q hq))];exact o.fw.fr b y w h
 ·obtain⟨x,y,z,h⟩:=o.fw.wo r hr;exact#[x,y,z,(aN (λe:r=q=>o.nw hq (by rw[<-e];exact hr))).trans h]
 ·by_cases e:r=q
  ·rw[e];exact w'.th d q hq
  ·rw[aN e];exact o.aw j r h
 ·rcases bT h with ⟨rfl,rfl,hl⟩|⟨ne,h⟩
  ·cases hs'
  ·obtain⟨v',h1,h2⟩:=o.sh j u h;exact#[v',h1,DU.mono k u h2]
 ·rcases bT h with ⟨rfl,rfl,hl⟩|⟨ne,h⟩
  ·rw[hs']at hm;cases hm;exact#[p,hg,d]
  ·obtain⟨r,h1,h3⟩:=o.hd j m v h hm;exact#[r,h1,v.mono k (λb hb=>aN (λe:b=q=>ne (o.inj j i q (by rw[<-e];exact hb) hq))) h3]
 ·rcases bT h with ⟨rfl,rfl,hl⟩|⟨ne,h⟩
  ·exact hb
  ·exact o.nb j m h
def EO.own(o:#v[A])(hg:σ[i]? =some (some (V.ref p)))(hp:∀b,A i b↔b=p)(d:DUs W (Bx B A) H l' xs'):EO W B H0 A (ρ.set i (.ow l')) σ (upd H p (.lst xs')):=
 o.chg hg ((hp p).mpr rfl) (s':=.ow l') rfl rfl #[hp,xs',aP,DUs.mono (λb y n h=>#[n,(aN (λz:b=p=>n (by rw[z];exact .inr #[i,(hp p).mpr rfl]))).trans h]) l' d]
def EO.frz(o:#v[A]){i:Nat}{s:Sl}{w:Own}{u:U}(hi:ρ[i]? =some s)(hs:s.hold=some w)(hu:∀{W B S H p},(∀b,S b->¬B b)->w.φ W B S H p->DU W B H u (.ref p)):EO W B H0 (λj q=>j≠i/\A j q) (ρ.set i (.sh u)) σ H:=by
 refine#[o.eb,o.fw,by rw[Bs,o.len],λj p h=>o.an j p h.2,λj p h=>o.aw j p h.2,λj j' p h h'=>o.inj j j' p h.2 h'.2,λj u' h=>?_,λj m v h hm=>?_,λj m h=>?_]
 ·rcases bT h with ⟨rfl,e,hl⟩|⟨ne,h⟩
  ·cases e;obtain⟨p,h1,h3⟩:=o.hd j s w hi hs;exact#[_,h1,hu (λb hb z=>z.elim (o.now (o.an j b hb)) λ⟨j',h⟩=>h.1 (o.inj j' j b h.2 hb)) (w.mono EO.kp (λ_ _=>rfl) h3)]
  ·obtain⟨v',h1,h2⟩:=o.sh j u' h;exact#[v',h1,DU.mono EO.kp u' h2]
 ·rcases bT h with ⟨rfl,rfl,hl⟩|⟨ne,h⟩
  ·cases hm
  ·obtain⟨p,h1,h3⟩:=o.hd j m v h hm;exact#[p,h1,v.at_ (v.mono EO.kp (λ_ _=>rfl) h3) (aDi ne)]
 ·rcases bT h with ⟨rfl,rfl,hl⟩|⟨ne,h⟩
  ·rfl
  ·exact o.nb j m h
def aYz:∀{W B S H p},(∀b,S b->¬B b)->(lsO l).φ W B S H p->DU W B H (.ls l) (.ref p):=λn ⟨s,xs,h,d⟩=>#[_,xs,rfl,n _ ((s _).mpr rfl),h,d]
def aZ8{w:Own}:∀{W B S H p},(∀b,S b->¬B b)->w.φ W B S H p->DU W B H (.op w.fz) (.ref p):=λn h=>#[_,_,rfl,n,h]
structure Rb(W:Addr->Prop)(H0 H1:Hp):Prop where
 le:∀b o,¬W b->H0 b=some o->H1 b=some o
 no:∀p,H1 p=none->H0 p=none
def EO.un(o:EO W B H0' A ρ σ H)(e:EB W B H0)(r:Rb W H0 H0'):EO W B H0 A ρ σ H:=
 #[e,#[λb x w h=>o.fw.fr b x w (r.le b x w h),o.fw.wo],o.len,λi p h=>r.no p (o.an i p h),o.aw,o.inj,o.sh,o.hd,o.nb]
def RO.un(r:Rb W H0 H0')(h:RO W B H0' H s v):RO W B H0 H s v:=by
 match s,h with
 |.sh u,h=>exact h
 |.ow l,⟨p,xs,e1,n1,h2,h3⟩=>exact#[p,xs,e1,r.no p n1,h2,h3]
 |.br l,h=>exact h
 |.oo w,⟨p,S,e1,n1,h⟩=>exact#[p,S,e1,λb hb=>r.no b (n1 b hb),h]
 |.bo w,h=>exact h
open Classical in
def EO.reb(o:#v[A]):∃H0',EO W B H0' A ρ σ H/\Rb W H0 H0'/\∀b x,(¬ ∃i,A i b)->H b=some x->H0' b=some x:=by
 refine#[λb=>if∃i,A i b then none else H b,?_,?_,λb x n h=>(if_neg n).trans h]
 ·have nb:∀p,B p->¬ ∃i,A i p:=λp hp ⟨i,h⟩=>o.now (o.an i p h) hp;refine#[#[λp hp=>by rw[if_neg (nb p hp)];exact o.ee.eb.bl p (.inl hp),o.eb.wb,λp hp=>?_],#[λb x w h=>?_,o.fw.wo],o.len,λi p h=>if_pos #[i,h],o.aw,o.inj,o.sh,o.hd,o.nb]
  ·obtain⟨x,y,z,h⟩:=o.fw.wo p hp;exact#[x,y,z,(if_neg (nb p (o.eb.wb p hp))).trans h]
  ·split at h
   ·cases h
   ·exact h
 ·refine#[λb x w h=>?_,λp h=>?_]
  ·refine(if_neg λ⟨i,q⟩=>?_).trans (o.fw.fr b x w h);rw[o.an i b q]at h;cases h
  ·split at h
   ·rename_i q;obtain⟨i,q⟩:=q;exact o.an i p q
   ·cases q:H0 p with
    |none=>rfl
    |some x=>
     by_cases w:W p
     ·obtain⟨_,_,_,z⟩:=o.fw.wo p w;rw[z]at h;cases h
     ·rw[o.fw.fr p x w q]at h;cases h
end
def bBc(t u:TVS):TVS:=λE ρ=>t {E with nx:=u E} ρ
def aY8:TVS:=λE ρ=>E.nx ρ
def vIf(c:TVc)(t u:TVS):TVS:=λE ρ=>c ρ λb=>(b=true->t E ρ)/\(b=false->u E ρ)
def aXj(i:Nat)(ρ:EV)(k:EV->Prop):Sl->Prop
 |.sh u=>k (ρ.set i (.sh u))
 |.ow l=>k (ρ.set i (.ow l))
 |.oo w=>k (ρ.set i (.oo w))
 |_=>False
def aPk(i:Nat)(F:TV):TVS:=λE ρ=>F ρ (aXj i ρ E.nx)
def bBn(F:TV):TVS:=λE ρ=>F ρ λs=>match s with
 |.br _=>False
 |.bo _=>False
 |s=>E.rt s
def aQt(i:Nat):TVS:=λE ρ=>match (ρ[i]? :Option Sl)with
 |some (.sh u)=>E.rt (.sh u)
 |some (.ow l)=>E.rt (.ow l)
 |some (.oo w)=>E.rt (.oo w)
 |_=>False
def vDo(F:TV):TVS:=λE ρ=>F ρ λ_=>E.nx ρ
def aVq(i:Nat)(G:TVS):TVS:=λE ρ=>match (ρ[i]? :Option Sl)with
 |some (.ow l)=>G E (ρ.set i (.sh (.ls l)))
 |some (.oo w)=>G E (ρ.set i (.sh (.op w.fz)))
 |_=>G E ρ
def aZz(i:Nat)(F:TV):TVS:=λE ρ=>match (ρ[i]? :Option Sl)with
 |some (.ow l)=>l.length<10000/\F ρ λs=>s.es λu=>E.nx (ρ.set i (.ow (l++[u])))
 |_=>False
def aXv(i:Nat)(F:TV):TVS:=λE ρ=>match (ρ[i]? :Option Sl)with
 |some (.ow l)=>F ρ λs=>match s.rd with
  |.ls m=>l.length+m.length<10000/\E.nx (ρ.set i (.ow (l++m)))
  |_=>False
 |_=>False
abbrev TVg:=U->EV->(EV->Prop)->Prop
def VTg(g:TG)(G:TVg):Prop:=∀{W B:Addr->Prop}{H0:Hp}{A:#v[96]}{ρ:EV}{σ:St}{H:Hp}{u:U}{v:V}{k:EV->Prop}{Q:St->Hp->Prop},EO W B H0 A ρ σ H->DU W (Bx B A) H u v->G u ρ k->(∀A' ρ' σ',EO W B H0 A' ρ' σ' H->k ρ'->Q σ' H)->g v σ H Q
def VG(X:Cx)(tg:Expr)(G:TVg):Prop:=∃g,PG X tg g/\VTg g G
def bBu(g:TGs)(is:List Nat):Prop:=∀{W B:Addr->Prop}{H0:Hp}{A:#v[96]}{ρ:EV}{σ:St}{H:Hp}{us:List U}{vs:List V}{k:EV->Prop}{Q:St->Hp->Prop},EO W B H0 A ρ σ H->DUs W (Bx B A) H us vs->us.length=is.length->k #v[87]->(∀A' ρ' σ',EO W B H0 A' ρ' σ' H->k ρ'->Q σ' H)->g vs σ H Q
def VGs(X:Cx)(es:List Expr)(is:List Nat):Prop:=∃g,PGs X es g/\bBu g is
def gZ(i:Nat):TVg:=λu ρ k=>k (ρ.set i (.sh u))
def aJx(is:List Nat):TVg:=λu ρ k=>match u with
 |.tp us=>us.length=is.length/\k #v[87]
 |_=>False
def iI(g:TVg)(b:TVS)(E:tY):List U->EV->Prop
 | [],ρ=>E.nx ρ
 |u::r,ρ=>g u ρ λρ1=>b {E with nx:=iI g b E r,ct:=iI g b E r,bk:=E.nx} ρ1
def bBs(g:TVg)(F:TVa)(b:TVS):TVS:=λE ρ=>F ρ λl=>iI g b E l ρ
def bBo(g:TVg)(F:TV):TVS:=λE ρ=>F ρ λs=>s.es λu=>g u ρ E.nx
def bA:VSs X [] aY8:=#[_,gC,λo h i=>i.nx o h]
def aG{st:Stmt}{G:TVS}(h:VS X st G):VSs X [st] G:=let⟨_,p,f⟩:=h;#[_,cW p,f]
def aD{st:Stmt}{rest:List Stmt}{F G:TVS}(h:VS X st F)(h':VSs X rest G):VSs X (st::rest) (bBc F G):=
 let⟨_,p,f⟩:=h;let⟨_,p',f'⟩:=h';#[_,bB p p',λo h i=>f o h #[λo1 h1=>f' o1 h1 i,i.bk,i.ct,i.rt,i.mr]]
def fO{st:List Stmt}{G:TVS}(i:Nat)(h:VSs X st G):VSs X st (aVq i G):=let⟨_,p,f⟩:=h;⟨_,p,λo h j=>by
 unfold aVq at h;split at h
 ·rename_i hi;exact f (o.frz hi rfl aYz) h j
 ·rename_i hi;exact f (o.frz hi rfl aZ8) h j
 ·exact f o h j⟩
def cB{c:Expr}{a b:List Stmt}{C:TVc}{F G:TVS}(hc:VC X c C)(ha:VSs X a F)(hb:VSs X b G):VS X (.If c a b pos) (vIf C F G):=
 let⟨_,p,f⟩:=hc;let⟨_,p1,f1⟩:=ha;let⟨_,p2,f2⟩:=hb;⟨_,pW p p1 p2,λo h i=>f o.ee h λc H1 h1 w=>by
  cases c with
  |true=>exact aEe (f1 (o.to w) (h1.1 rfl) i)
  |false=>exact rG (f2 (o.to w) (h1.2 rfl) i)⟩
def aAe{W B:Addr->Prop}{H0 H H1:Hp}{A:#v[96]}{ρ:EV}{σ:St}{s:Sl}{k:EV->Prop}{Q:St->Hp->Prop}(o:#v[A])(f:Fw W H H1)(r:RO W (Bx B A) H H1 s v)(h:aXj i ρ k s)(q:∀{A' ρ' σ'},EO W B H0 A' ρ' σ' H1->k ρ'->Q σ' H1):Q (σ.set i (some v)) H1:=by
 match s,r,h with
 |.sh u,r,h=>exact q ((o.to f).setSh r) h
 |.ow l,⟨p,xs,e1,h1,h2,h3⟩,h=>
  subst e1;exact q (o.setOw f h1 h2 h3) h
 |.oo w,⟨p,S,e1,h1,h2⟩,h=>
  subst e1;exact q (o.setOo f (s:=.oo w) rfl rfl h1 h2) h
def aZ{x:Str}{e:Expr}{pos pos':Pos}{F:TV}(hN:X.N.Nodup)(he:VE X e F)(hi:X.N[i]? =some x:=by rfl)(hx:#v[C]:=by first|exact Cv rfl|exact Dc rfl)(hs:swapsWith e (some (.Name x pos')) pos.line X.env=pure false:=by rfl)(hf:FL X x:=by trivial):
  VS X (.Assign [.Name x pos'] e pos) (aPk i F):=
 let⟨_,p,f⟩:=he;#[_,zY hN hi hx p hs hf,λo h j=>f o.ee h λs v H1 h1 w r=>aAe o w r h1 j.nx]
def aU{e:Expr}{F:TV}(he:VE X e F):VS X (.Return (some e) pos) (bBn F):=
 let⟨_,p,f⟩:=he;⟨_,wW p,λ{W B H0 A ρ σ H E D} o h j=>f o.ee h λs v H1 h1 w r=>by
  have fw:=o.fw.trans w;have less:∀{H:Hp} b(x:HO),¬Bx B A b->H b=some x->¬B b/\H b=some x:=λb x n h=>#[λz=>n (.inl z),h];match s,h1,r with
  |.sh u,h1,r=>exact j.rt fw (s:=.sh u) (DU.mono less u r) h1
  |.ow l,h1,⟨p,xs,e1,h2,h3,h4⟩=>
   refine j.rt fw (s:=.ow l) ?_ h1;exact RO.back (s:=.ow l) o.fw #[p,xs,e1,h2,h3,DUs.mono (λb x n h=>#[λz=>n (z.elim (λz=> .inl (.inl z)) .inr),h]) l h4]
  |.oo w,h1,⟨p,S,e1,h2,h3⟩=>
   refine j.rt fw (s:=.oo w) ?_ h1;exact RO.back (s:=.oo w) o.fw #[p,S,e1,h2,w.mono (λb x n h=>#[λz=>n (z.elim (λz=> .inl (.inl z)) .inr),h]) (λ_ _=>rfl) h3]
  |.no,_,r=>exact r.elim⟩
def jH{x:Str}{pos p':Pos}(i:Nat)(hN:X.N[i]? =some x:=by rfl)(hv:#v[80]:=by trivial)(hd:ND x:=by decide)
  (hcd:NC x:=by decide):VS X (.Return (some #v[E]) pos) (aQt i):=⟨_,wW (pA hN hv hd hcd),λ{W B H0 A ρ σ H E D} o h j=>by
 unfold aQt at h;have less:∀{H:Hp} b(x:HO),¬Bx B A b->H b=some x->¬B b/\H b=some x:=λb x n h=>#[λz=>n (.inl z),h];split at h
 ·rename_i u hs;obtain⟨v,h1,h2⟩:=o.sh i u hs;exact#[v,h1,j.rt (s:=.sh u) o.fw (DU.mono less u h2) h]
 ·rename_i l hs;obtain⟨p,xs,h1,h2,h3,h4⟩:=o.ow i l hs;exact#[_,h1,j.rt (s:=.ow l) o.fw #[p,xs,rfl,o.an i p ((h2 p).mpr rfl),h3,DUs.mono (λb x n h=>#[λz=>n (z.elim .inl λe=> .inr #[i,(h2 b).mpr e]),h]) l h4] h]
 ·rename_i w hs;obtain⟨p,h1,h3⟩:=o.hd i _ w hs rfl;exact#[_,h1,j.rt (s:=.oo w) o.fw #[p,_,rfl,o.an i,w.mono (λb x n h=>#[λz=>n (z.elim .inl λe=> .inr #[i,e]),h]) (λ_ _=>rfl) h3] h]
 ·exact h.elim⟩
def uB{x:Str}{p' apos cpos pos:Pos}{F:TV}(i:Nat)(ha:VE X a F)(hN:X.N[i]? =some x:=by rfl)(hv:#v[80]:=by trivial)(hd:ND x:=by decide)
  (hcd:NC x:=by decide)
  (hbase:attributeBase #v[E] "append" X.env (eval #v[E] X.env)=eval #v[E] X.env:=by rfl)
  (hfew:((backTo cpos (starEach [a] X.env)).all (λx=> !x.1) && (backToKw cpos #v[30]).all (λx=>x.1.isSome)
   && decide ([a].length+([]:List Keyword).length+(if([]:List Keyword).isEmpty then 0 else 1)<30))=true:=by rfl)
  (hline:EL apos cpos:=by rfl) (hs:SE X a []:=by rfl) (hplain:BT X cpos []:=by rfl)
  (hsw:swapsWith (.Call (.Attribute #v[E] "append" apos) [a] [] cpos) none pos.line X.env=pure false:=by rfl):
  VS X (.Expr (.Call (.Attribute #v[E] "append" apos) [a] [] cpos) pos) (aZz i F):=
 let⟨_,p,f⟩:=ha;⟨_,qW (aJ2 Ht Nm Nl xN (pA hN hv hd hcd) (bZ p dN hs) hbase hfew hline hs hplain) hsw,λ{W B H0 A ρ σ H E D} o h j=>by
  unfold aZz at h;split at h
  ·rename_i l hi;obtain⟨q,xs,h1,h2,h3,h4⟩:=o.ow i l hi;refine#[_,h1,.inl #[rfl,_,SqL.of h3],f o.ee h.2 λs v H1 h5 w r=>?_];obtain⟨u,h6,d⟩:=r.du o.ee.eb h5;have o1:=o.to w;obtain⟨q',ys,g1,g2,g3,g4⟩:=o1.ow i l hi;rw[h1]at g1;cases g1;refine#[q,ys,v,rfl,rfl,g3,?_,j.nx (o1.own h1 h2 (g4.app (DUs.one d))) h6];have:=g4.length;have:(10000:Nat)<=sizeLine:=by decide
   lia
  ·exact h.elim⟩
def wK{x:Str}{p' apos cpos pos:Pos}{F:TV}(i:Nat)(ha:VE X a F)(hN:X.N[i]? =some x:=by rfl)(hv:#v[80]:=by trivial)(hd:ND x:=by decide)
  (hcd:NC x:=by decide)
  (hbase:attributeBase #v[E] "extend" X.env (eval #v[E] X.env)=eval #v[E] X.env:=by rfl)
  (hfew:((backTo cpos (starEach [a] X.env)).all (λx=> !x.1) && (backToKw cpos #v[30]).all (λx=>x.1.isSome)
   && decide ([a].length+([]:List Keyword).length+(if([]:List Keyword).isEmpty then 0 else 1)<30))=true:=by rfl)
  (hline:EL apos cpos:=by rfl) (hs:SE X a []:=by rfl) (hplain:BT X cpos []:=by rfl)
  (hsw:swapsWith (.Call (.Attribute #v[E] "extend" apos) [a] [] cpos) none pos.line X.env=pure false:=by rfl):
  VS X (.Expr (.Call (.Attribute #v[E] "extend" apos) [a] [] cpos) pos) (aXv i F):=
 let⟨_,p,f⟩:=ha;⟨_,qW (aJ2 Ht PySem.F.slot_list_extend PySem.F.type_list_extend aKt (pA hN hv hd hcd) (bZ p dN hs) hbase hfew hline hs hplain) hsw,λ{W B H0 A ρ σ H E D} o h j=>by
  unfold aXv at h
  split at h
  ·rename_i l hi
   obtain⟨q,xs,h1,h2,h3,h4⟩:=o.ow i l hi
   refine#[_,h1,.inl #[rfl,_,SqL.of h3],f o.ee h λs v H1 h5 w r=>?_]
   have d:=r.db o.ee.eb
   revert h5 d
   generalize s.rd=u
   intro h5 d
   split at h5<;>try exact h5.elim
   rename_i m
   have o1:=o.to w
   obtain⟨q',ys,g1,g2,g3,g4⟩:=o1.ow i l hi
   rw[h1]at g1
   cases g1
   obtain⟨b,zs,rfl,_,b2,b3⟩:=d.ls (o.ee.to w).eb
   refine#[q,b,ys,zs,rfl,rfl,g3,b2,?_,j.nx (o1.own h1 h2 (g4.app b3)) h5.2]
   have:=g4.length
   have:=b3.length
   have:(10000:Nat)<=sizeLine:=by decide
   lia
  ·exact h.elim⟩
def cR{x:Str}(hN:X.N.Nodup)(hi:X.N[i]? =some x:=by rfl)(hx:#v[C]:=by first|exact Cv rfl|exact Dc rfl)(hf:FL X x:=by trivial):VG X (.Name x pos) (gZ i):=
 #[_,aW hN hi hx hf,λo d h q=>q _ _ _ (o.setSh d) h]
def mF:VGs X [] []:=⟨_,tD,λ{W B H0 A ρ σ H us vs k Q} o d l h q=>by
 match us,l with
 | [],_=>exact#[d,q _ _ _ o h]⟩
def cF{x:Str}(hN:X.N.Nodup)(h2:VGs X es is)(hi:X.N[i]? =some x:=by rfl)(hx:#v[C]:=by first|exact Cv rfl|exact Dc rfl)(hf:FL X x:=by trivial)
  (hs:(assignEach (.Name x pos::es) X.env).map (·.2)=assign (.Name x pos) X.env::(assignEach es X.env).map (·.2):=by rfl):VGs X (.Name x pos::es) (i::is):=
 let⟨_,p,f⟩:=h2;⟨_,fZ (aW hN hi hx hf) p hs,λ{W B H0 A ρ σ H us vs k Q} o d l h q=>by
  match us,d,l with
  |u::us,⟨v,r,e,d1,d2⟩,l=>
   refine#[v,r,e,f (o.setSh (i:=i) d1) (DUs.mono (λb x n h=>#[λz=>n (z.elim .inl λ⟨j,e⟩=> .inr #[j,e.2]),h]) us d2) (Jb l) h q]⟩
def qL{c:Nat}(hc:X.calm=true)(h:VGs X es is)(hl:is.length=n:=by rfl)(hn:(assignEach es X.env).length=n:=by rfl)(hst:(assignEach es X.env).findIdx? (·.1)=none:=by rfl):VG X (.Tuple es c pos) (aJx is):=
 let⟨_,p,f⟩:=h;⟨_,xP hc p hn hst,λ{W B H0 A ρ σ H u v k Q} o d h q=>by
  match u,d,h with
  |.tp us,⟨a,xs,e,_,ha,ds⟩,⟨l,h⟩=>exact#[a,xs,e,SqT.of ha,by rw[<-ds.length,l,hl],f o ds l h q]⟩
def aG9{tg e:Expr}{F:TV}{G:TVg}(he:VE X e F)(hg:VG X tg G)(hs:swapsWithSole [tg] e pos.line X.env=pure false:=by rfl)(hw:swappedStores [tg] e X.env=pure none:=by rfl)(h1:(assignEach [tg] X.env).map (·.2)=[assign tg X.env]:=by rfl):VS X (.Assign [tg] e pos) (bBo G F):=
 let⟨_,p,f⟩:=he;let⟨_,p',f'⟩:=hg;⟨_,aD2 p p' hs hw h1,λo h j=>f o.ee h λs v H1 h1 w r=>by
  obtain⟨u,h2,d⟩:=r.du o.ee.eb h1;exact f' (o.to w) d h2 λA' ρ' σ' o' h'=>j.nx o' h'⟩
abbrev Tr(B:Addr->Prop)(H1:Hp)(B2:Addr->Prop)(H2:Hp):Prop:=∀b o,¬B b->H1 b=some o->¬B2 b/\H2 b=some o
structure WkU(W B:Addr->Prop)(H1:Hp)(J:It)(l:List U):Prop where
 stop:∀{B2 H2},Tr B H1 B2 H2->J.stop l.length H2
 go:∀{B2 H2} i,Tr B H1 B2 H2->i<l.length->J.go i H2
 yld:∀{B2 H2}(i:Nat){x H' u},EB W B2 H2->Tr B H1 B2 H2->l[i]? =some u->J.yld i H2 x H'->Fw W H2 H'/\DU W B2 H' u x
def VTi(wi:TI)(F:TVa):Prop:=∀{W B:Addr->Prop}{ρ:EV}{σ:St}{H:Hp}{R:List U->Prop}{Q:It->Hp->Prop},EE W B H ρ σ->F ρ R->(∀l J H',R l->Fw W H H'->WkU W B H' J l->Q J H')->wi σ H Q
def VI(X:Cx)(tg iter:Expr)(F:TVa):Prop:=∃wi,PI X tg iter wi/\VTi wi F
def vLs(F:TV):TVa:=λρ R=>F ρ λs=>s.es λu=>match u with
 |.ls l=>R l
 |_=>False
def vTp(F:TV):TVa:=λρ R=>F ρ λs=>s.es λu=>match u with
 |.tp l=>R l
 |_=>False
def aSs{W B:Addr->Prop}{H:Hp}{K:Ad}{a:Addr}{l:List U}{xs:List V}(nb:¬B a)(ha:H a=some (.lst xs))(ds:DUs W B H l xs):WkU W B H (Itl K a) l:=
 ⟨λt=>#[xs,SqL.of (t a _ nb ha).2,by rw[ds.length];exact Aj _],λi t h=>#[xs,xs[i]'(by rw[<-ds.length];exact h),SqL.of (t a _ nb ha).2,Ag _],λi x H' u e t h y=>by
  obtain⟨rfl,y⟩:=y;obtain⟨x',h1,d⟩:=ds.get h;rw[y xs (SqL.of (t a _ nb ha).2)]at h1;cases h1;exact#[e.refl,DU.mono t u d]⟩
def aXi{W B:Addr->Prop}{H:Hp}{K:Ad}{a:Addr}{l:List U}{xs:List V}(nb:¬B a)(ha:H a=some (.tup xs))(ds:DUs W B H l xs):WkU W B H (Itt K a) l:=
 ⟨λt=>#[xs,SqT.of (t a _ nb ha).2,by rw[ds.length];exact Aj _],λi t h=>#[xs,xs[i]'(by rw[<-ds.length];exact h),SqT.of (t a _ nb ha).2,Ag _],λi x H' u e t h y=>by
  obtain⟨rfl,y⟩:=y;obtain⟨x',h1,d⟩:=ds.get h;rw[y xs (SqT.of (t a _ nb ha).2)]at h1;cases h1;exact#[e.refl,DU.mono t u d]⟩
def gR(lo:Int)(n:Nat):List U:=(Bh n).map λi:Nat=> .n (lo+(i:Int))
def aGf{W B:Addr->Prop}{H:Hp}{lo:Int}{n:Nat}:WkU W B H (Itr lo n) (gR lo n):=
 ⟨λ_=>by show n<=_;simp[gR],λi _ h=>by show i<n;simpa[gR]using h,λi x H' u e _ h y=>by
  obtain⟨rfl,rfl⟩:=y;unfold gR at h;rw[Ay]at h;cases q:(Bh n)[i]? with
  |none=>rw[q]at h;cases h
  |some j=>
   rw[q]at h;cases h;have hj:=(List.getElem?_eq_some_iff.mp q).2;rw[List.getElem_range]at hj;subst hj;exact#[e.refl,rfl,rfl]⟩
def aX{tg e:Expr}{F:TV}(h:VE X e F):VI X tg e (vLs F):=let⟨_,p,f⟩:=h;⟨_,aSh p,λe h q=>f e h λs v H1 h1 w r=>by
 obtain⟨u,h2,d⟩:=r.du e.eb h1;match u,h2,d with
 |.ls l,h2,⟨a,xs,e1,nb,ha,ds⟩=>exact#[a,e1,#[xs,SqL.of ha],q l _ _ h2 w (aSs nb ha ds)]⟩
def aOi{tg e:Expr}{F:TV}(h:VE X e F):VI X tg e (vTp F):=let⟨_,p,f⟩:=h;⟨_,aW7 p,λe h q=>f e h λs v H1 h1 w r=>by
 obtain⟨u,h2,d⟩:=r.du e.eb h1;match u,h2,d with
 |.tp l,h2,⟨a,xs,e1,nb,ha,ds⟩=>exact#[a,e1,#[xs,SqT.of ha],q l _ _ h2 w (aXi nb ha ds)]⟩
def vRg(F:TVa):TVa:=λρ R=>F ρ λus=>match us with
 | [.v (.int j)]=> -(2 ^ 62)<=j/\j<2 ^ 62/\R (gR 0 j.toNat)
 |_=>False
def bBx(F:TVa):TVa:=λρ R=>F ρ λus=>match us with
 | [.v (.int i),.v (.int j)]=>(-(2 ^ 62)<=i/\i<2 ^ 62/\ -(2 ^ 62)<=j/\j<2 ^ 62)/\R (gR i (j-i).toNat)
 |_=>False
def eV{tg a:Expr}{F:TVa}{p pos:Pos}(hm:X.mg "range"=none)(hi:VB X [a] F)(hgl:Gl X "range":=by rfl)(hs1:#v[72]:=by rfl):VI X tg (.Call (.Name "range" p) [a] [] pos) (vRg F):=
 let⟨_,p,f⟩:=hi;⟨_,aK7 hgl hm p hs1,λe h q=>f e h λus vs H1 h1 w d=>by
  match us,h1,d with
  | [.v (.int i)],⟨h2,h3,h4⟩,⟨x,r,e,d1,d2⟩=>
   obtain rfl:r=[]:=d2;rw[d1.int]at e;exact#[i,e,h2,h3,q _ _ _ h4 w aGf]⟩
def aCp{tg a b:Expr}{F:TVa}{p pos:Pos}(hm:X.mg "range"=none)(hi:VB X [a,b] F)(hgl:Gl X "range":=by rfl)(hs1:#v[h]:=by rfl)(hs2:#v[I]:=by rfl):VI X tg (.Call (.Name "range" p) [a,b] [] pos) (bBx F):=
 let⟨_,p,f⟩:=hi;⟨_,aLy hgl hm p hs1 hs2,λe h q=>f e h λus vs H1 h1 w d=>by
  match us,h1,d with
  | [.v (.int i),.v (.int j)],⟨h2,h4⟩,d=>
   obtain⟨x,_,e,d1,y,r,rfl,d2,d3⟩:=d;obtain rfl:r=[]:=d3;rw[d1.int,d2.int]at e;exact#[i,j,e,h2,q _ _ _ h4 w aGf]⟩
def iK(l:List U):List U:=l.zipIdx.map λx=> .tp [.n (x.2:Nat),x.1]
def aQ3{W B:Addr->Prop}{H:Hp}{K:Ad}{a:Addr}{l:List U}{xs:List V}(nb:¬B a)(ha:H a=some (.lst xs))(ds:DUs W B H l xs):WkU W B H (Ite K a) (iK l):=
 ⟨λt=>#[xs,SqL.of (t a _ nb ha).2,by simp[iK,ds.length]],λi t h=>#[xs,xs[i]'(by rw[<-ds.length];simpa[iK]using h),SqL.of (t a _ nb ha).2,Ag _],λi x H' u e t h y=>by
  obtain⟨p,x',n,rfl,rfl,y⟩:=y;have hx:=y xs (SqL.of (t a _ nb ha).2);obtain⟨u',hu,d⟩:=ds.getV hx;have hu2:(iK l)[i]? =some (.tp [.n (i:Nat),u']):=by simp[iK,Ay,List.getElem?_zipIdx,hu]
  rw[h]at hu2;cases hu2;have f:=e.new (o:=.tup [.int i,x']) n;exact#[f,p,_,rfl,e.nw n,aP,_,_,rfl,#[rfl,rfl],_,_,rfl,DU.mono (λb o n h=>e.keep f b o (t b o n h).1 (t b o n h).2) u' d,rfl]⟩
def vEn(F:TVa):TVa:=λρ R=>F ρ λus=>match us with
 | [.ls l]=>R (iK l)
 |_=>False
def aD8{es:List Expr}{F:TVa}{p pos:Pos}(hm:X.mg "enumerate"=none)(hi:VA X [a] F)(hgl:Gl X "enumerate":=by rfl)(hs1:#v[72]:=by rfl):VI X (.Tuple es k pos') (.Call (.Name "enumerate" p) [a] [] pos) (vEn F):=
 let⟨_,p,f⟩:=hi;⟨_,aSp hgl hm p hs1,λe h q=>f e h λus vs H1 h1 _ w d=>by
  match us,h1,d with
  | [.ls l],h4,d=>
   obtain⟨x,r,e,⟨a,xs,rfl,nb,ha,ds⟩,d2⟩:=d;obtain rfl:r=[]:=d2;exact#[a,e,#[xs,SqL.of ha],q _ _ _ h4 w (aQ3 nb ha ds)]⟩
def vG:List U->List U->List U:=List.zipWith λa b=> .tp [a,b]
def aVv{l m:List U}{u v:U}(h1:l[i]? =some u)(h2:m[i]? =some v):(vG l m)[i]? =some (.tp [u,v]):=by simp[vG,List.getElem?_zipWith,h1,h2]
def aV6{W B:Addr->Prop}{H:Hp}{K:Ad}{a b:Addr}{l m:List U}{xs ys:List V}(hl:l.length<=m.length)(nb:¬B a)(ha:H a=some (.tup xs))(ds:DUs W B H l xs)(nb':¬B b)(hb:H b=some (.lst ys))(ds':DUs W B H m ys):WkU W B H (Itz K a b) (vG l m):=by
 have e1:=ds.length;have e2:=ds'.length;have e3:(vG l m).length=l.length:=by simp[vG];lia
 refine#[λt=>#[xs,SqT.of (t a _ nb ha).2,∅],λi t h=>#[xs,ys,xs[i]'∅,ys[i]'∅,SqT.of (t a _ nb ha).2,SqL.of (t b _ nb' hb).2,Ag _,Ag _],λi x H' u e t h y=>?_];obtain⟨p,x',y',n,rfl,rfl,hx,hy⟩:=y;obtain⟨u1,hu1,d1⟩:=ds.getV (hx xs (SqT.of (t a _ nb ha).2));obtain⟨u2,hu2,d2⟩:=ds'.getV (hy ys (SqL.of (t b _ nb' hb).2));rw[aVv hu1 hu2]at h;cases h;have f:=e.new (o:=.tup [x',y']) n;have k:=λb o n h=>e.keep f b o (t b o n h).1 (t b o n h).2;exact#[f,p,_,rfl,e.nw n,aP,_,_,rfl,DU.mono k u1 d1,_,_,rfl,DU.mono k u2 d2,rfl]
def vZp(F:TVa):TVa:=λρ R=>F ρ λus=>match us with
 | [.tp l,.ls m]=>l.length<=m.length/\R (vG l m)
 |_=>False
def aXt{es:List Expr}{a b:Expr}{F:TVa}{p pos:Pos}(hm:X.mg "zip"=none)(hi:VA X [a,b] F)(hgl:Gl X "zip":=by rfl)(hs1:#v[h]:=by rfl)(hs2:#v[I]:=by rfl):VI X (.Tuple es k pos') (.Call (.Name "zip" p) [a,b] [] pos) (vZp F):=
 let⟨_,p,f⟩:=hi;⟨_,aWr hgl hm p hs1 hs2,λe h q=>f e h λus vs H1 h1 _ w d=>by
  match us,h1,d with
  | [.tp l,.ls m],⟨hl,h4⟩,d=>
   obtain⟨x,_,e,⟨a,xs,rfl,nb,ha,ds⟩,y,r,rfl,⟨b,ys,rfl,nb',hb,ds'⟩,d2⟩:=d;obtain rfl:r=[]:=d2;exact#[a,b,e,#[xs,SqT.of ha],#[ys,SqL.of hb],q _ _ _ h4 w (aV6 hl nb ha ds nb' hb ds')]⟩
def cO{tg iter:Expr}{F:TVa}{G:TVg}{b:TVS}(hp:PassesOwn #v[p] X.A X.env X.xe)(hc:X.calm=true)(hi:VI X tg iter F)(hg:VG X tg G)(hb:VSs X body b)
  (hs:FS X iter:=by intro _;rfl):VS X (.For tg iter body [] pos) (bBs G F b):=
 let⟨_,p,f⟩:=hi;let⟨_,p1,f1⟩:=hg;let⟨_,p2,f2⟩:=hb;⟨_,aWw hp hc p p1 p2 hs,λ{W B H0 A0 ρ0 σ0 H E D} o0 h j=>f o0.ee h λl J H1 h1 w wk=>by
  have o:=o0.to w;obtain⟨H0',o',rb,kp⟩:=o.reb;have st:∀{A ρ σ H},EO W B H0' A ρ σ H->Tr (Bx B A0) H1 (Bx B A) H:=λ{A ρ σ H} o2 p x n hp=>by
   have h0:=kp p x (λz=>n (.inr z)) hp;refine#[λz=>z.elim (λz=>n (.inl z)) λ⟨i,z⟩=>?_,o2.fw.fr p x (λw=>n (.inl (o.eb.wb p w))) h0];rw[o2.an i p z]at h0;cases h0
  refine#[λi m σ H=>m=l.length-i/\i<=l.length/\∃A ρ,EO W B H0' A ρ σ H/\iI G b E (l.drop i) ρ,#[l.length,by simp,Bg _,A0,ρ0,o',h1],?_];rintro i m σ H ⟨rfl,hi,A,ρ,o2,h2⟩;by_cases hlt:i<l.length
  ·have e:l.drop i=l[i]::l.drop (i+1):=Fp hlt;rw[e]at h2;refine .inr #[wk.go i (st o2) hlt,λσ H=>∃A ρ,EO W B H0' A ρ σ H/\iI G b E (l.drop (i+1)) ρ,λσ' H' h=>#[l.length-(i+1),∅,rfl,hlt,h],λx H' y=>?_];obtain⟨w2,d⟩:=wk.yld i o2.ee.eb (st o2) (Ag hlt) y;exact f1 (o2.to w2) d h2 λA' ρ' σ' o3 h3=>f2 o3 h3 #[λo4 h4=>#[_,_,o4,h4],λo4 h4=>j.nx (o4.un o.eb rb) h4,λo4 h4=>#[_,_,o4,h4],λw r h4=>j.rt #[λb x nw hb=>w.fr b x nw (rb.le b x nw hb),w.wo] (r.un rb) h4,λo4 d4 h4=>j.mr (o4.un o.eb rb) d4 h4]
  ·have e:i=l.length:=by lia
   subst e;rw[Mv]at h2;exact .inl #[wk.stop (st o2),j.nx (o2.un o.eb rb) h2]⟩
def vfn{K:Ad}{mg:Str->#v[12]}{base:Heap}{x qual:Str}{st:Stmt}{f:Addr}{fd:FuncData}{N ps:List Str}{G:TVS}{F:#v[q]}(Fn:Fun K x qual st f fd)(S:aQ N ps (aC st))
  (hb:∀(cdv:Value)(A:Around)(outer:List Env)(s:Shared)(H:Hp)(E:XK),eY k (A.deeper (envOfC qual (aC st) #v[0] f cdv))->VSs (aIt CX0 P w K mg base N qual (aC st) f cdv A outer s H E).nox (gM st) G)
  (hF:∀us R,F us R->us.length=ps.length/\G {nx:=λ_=>R (.sh .no),rt:=R} (us.map .sh++Az (N.length-us.length) .no)):↥(k+1) f fd ps (spV F):=by
 refine Fn.ok S (λvs H Q E h=>?_) (λcdv A outer s H vs Q E hr h=>?_)
 ·obtain⟨W,B,us,R,eb,d,h,_⟩:=h;rw[<-d.length];exact(hF us R h).1
 ·obtain⟨t,p,g⟩:=hb cdv A outer s H E hr;obtain⟨W,B,us,R,eb,d,h,q⟩:=h;refine#[t,p,g (W:=W) (B:=B) (H0:=H) (A:=λ_ _=>False) #[eb,eb.refl,?_,λ_ _ z=>z.elim,λ_ _ z=>z.elim,λ_ _ _ z=>z.elim,λi u h=>?_,λi s w h hs=>?_,λi s h=>?_] (hF us R h).2 #[λo h=>?_,λ_ z=>z.elim,λ_ z=>z.elim,λw r h=>q _ _ _ h w r,λ_ _ z=>z.elim]]
  ·simp only[start,Al,Ab,Dn,d.length]
  ·rw[Iv]at h;split at h
   ·rename_i hl;rw[Ab]at hl;rw[Ay,Ag hl]at h;cases h;obtain⟨v,h1,h2⟩:=d.get (Ag hl);refine#[v,?_,DU.mono (λb x n h=>#[λz=>z.elim n λ⟨_,z⟩=>z,h]) _ h2];unfold start;rw[Di (by rw[Ab, <-d.length];exact hl),Ay,h1];rfl
   ·rw[Ey]at h;split at h<;>cases h
  ·rw[Iv]at h;split at h
   ·rw[Ay]at h;cases hu:us[i]? <;>rw[hu]at h<;>cases h;cases hs
   ·rw[Ey]at h;split at h<;>cases h;cases hs
  ·rw[Iv]at h;split at h
   ·rw[Ay]at h;cases hu:us[i]? <;>rw[hu]at h<;>cases h;rfl
   ·rw[Ey]at h;split at h<;>cases h;rfl
  ·exact q _ _ _ h o.fw #[rfl,rfl]
inductive ItV(F:TV)(σ:St)(H:Hp)(Q:VK):Prop
 |mk (W B ρ R:_) (q0_:#v[41]) (q1_:F ρ R) (q2_:#v[31]):ItV F σ H Q
def tV(F:TV):TE:=λσ H Q=>ItV F σ H Q
inductive aY1(F:TVc)(σ:St)(H:Hp)(Q:(Bool->Hp->Prop)):Prop
 |mk (W B ρ R:_) (q0_:#v[41]) (q1_:F ρ R) (q2_:∀c H',R c->Fw W H H'->Q c H'):aY1 F σ H Q
def tVc(F:TVc):TT:=λσ H Q=>aY1 F σ H Q
def VE.can{X:Cx}{e:Expr}{F:TV}(h:VE X e F):PE X e (tV F):=let⟨_,p,f⟩:=h;λpins s σ H Q I ⟨_,_,_,_,e,h,q⟩=>p pins s σ H Q I (f e h q)
def VC.can{X:Cx}{e:Expr}{F:TVc}(h:VC X e F):PT X e (tVc F):=let⟨_,p,f⟩:=h;λpins s σ H Q I ⟨_,_,_,_,e,h,q⟩=>p pins s σ H Q I (f e h q)
def VTh(own:Nat)(g:TG)(G:TVg):Prop:=∀{W B:Addr->Prop}{H:Hp}{ρ:EV}{σ:St}{u:U}{v:V}{k:EV->Prop}{Q:St->Hp->Prop},EE W B H ρ σ->DU W B H u v->G u ρ k->(∀ρ' σ',EE W B H ρ' σ'->σ'.length=σ.length->(∀i,own<=i->σ'[i]? =σ[i]?)->k ρ'->Q σ' H)->g v σ H Q
def EE.set{W B:Addr->Prop}{H:Hp}{σ:St}(e:#v[41])(d:DU W B H u v):EE W B H (ρ.set i (.sh u)) (σ.set i (some v)):=by
 refine#[e.eb,by rw[Bs,Bs,e.len],λj u' h=>?_,λj s w h hs=>?_]
 ·rcases bT h with ⟨rfl,q,hl⟩|⟨ne,h⟩
  ·cases q;exact#[v,get_set (e.len▸hl),d]
  ·obtain⟨v',h1,h2⟩:=e.sh j u' h;exact#[v',by rw[fX ne];exact h1,h2]
 ·rcases bT h with ⟨rfl,rfl,hl⟩|⟨ne,h⟩
  ·cases hs
  ·obtain⟨p,S,h1,h2⟩:=e.hd j s w h hs;exact#[p,S,by rw[fX ne];exact h1,h2]
def bC{own i:Nat}(h:i<own):VTh own (pL i) (gZ i):=λe d h1 q=>q _ _ (e.set d) (Bs ..) (λj hj=>fX ∅) h1
def aG5:List Nat->TGs
 | []=>aYp
 |i::is=>aUc (pL i) (aG5 is)
theorem aFx{own:Nat}{W B:Addr->Prop}{H:Hp}{Q:St->Hp->Prop}{k:EV->Prop}:∀{is:List Nat}{us:List U}{vs:List V}{ρ:EV}{σ:St},(∀i∈is,i<own)->EE W B H ρ σ->DUs W B H us vs->us.length=is.length->k #v[87]->
  (∀ρ' σ',EE W B H ρ' σ'->σ'.length=σ.length->(∀i,own<=i->σ'[i]? =σ[i]?)->k ρ'->Q σ' H)->aG5 is vs σ H Q
 | [],[],_,_,_,_,e,d,_,h,q=>#[d,q _ _ e rfl (λ_ _=>rfl) h]
 |i::is,u::us,_,ρ,σ,hi,e,⟨v,r,e1,d1,d2⟩,l,h,q=>#[v,r,e1,aFx (λj hj=>hi j (Af _ hj)) (e.set (i:=i) d1) d2 (Jb l) h λρ' σ' e' l' a' h'=>q ρ' σ' e' (l'.trans (Bs ..)) (λj hj=>(a' j hj).trans (fX (by have:=hi i Ah;lia))) h']
def aAd{own:Nat}{K:Ad}{is:List Nat}{n:Nat}(hl:is.length=n)(h:∀i∈is,i<own):VTh own (aY7 K n (aG5 is)) (aJx is):=λ{W B H ρ σ u v k Q} e d h1 q=>by
 match u,d,h1 with
 |.tp us,⟨a,xs,e1,_,ha,ds⟩,⟨l,h1⟩=>exact#[a,xs,e1,SqT.of ha,by rw[<-ds.length,l,hl],aFx h e ds l h1 q]
def aWl:Sl->Sl
 |.ow l=> .br l
 |.oo w=> .bo w
 |s=>s
def aLb:∀s:Sl,(aWl s).hold=s.hold
 |.no=>rfl
 |.sh _=>rfl
 |.ow _=>rfl
 |.br _=>rfl
 |.oo _=>rfl
 |.bo _=>rfl
def tM(no:Nat)(cap:#v[14])(ρ:EV):EV:=Az no .no++cap.map λp=>match (ρ[p.2]? :Option Sl)with
 |some s=>aWl s
 |_=> .no
def aC2(h:#v[97][i]? =some s)(hs:s≠.no):∃(j:Nat)(s0:Sl),no<=i/\(∀σ:St,(nU no cap σ)[i]? =some ((σ[j]? :Option (Option V))).join)/\ρ[j]? =some s0/\s=aWl s0:=by
 unfold tM at h;rw[Iv]at h;split at h
 ·rw[Ey]at h;split at h
  ·cases h;exact(hs rfl).elim
  ·cases h
 ·rename_i hn;rw[Dn]at hn h;rw[Ay]at h;cases hc:cap[i-no]? with
  |none=>rw[hc]at h;cases h
  |some p=>
   rw[hc]at h;have h':=Bi h;dsimp only at h';split at h'
   ·rename_i s0 h0;refine#[p.2,s0,∅,λσ=>?_,h0,h'.symm];unfold nU;rw[Dq (by rw[Dn];lia),Dn,Ay,hc];rfl
   ·exact(hs h'.symm).elim
def EE.cap{W B:Addr->Prop}{H:Hp}{ρ:EV}{σ:St}{no:Nat}{cap:#v[14]}(e:#v[41]):EE W B H #v[97] (nU no cap σ):=by
 refine#[e.eb,by simp[tM,nU],λi u h=>?_,λi s w h hs=>?_]
 ·obtain⟨j,s0,_,c,h,e0⟩:=aC2 h (by intro z;cases z);have:s0=.sh u:=by cases s0<;>cases e0<;>rfl
  obtain⟨v,h1,h2⟩:=e.sh j u (this▸h);exact#[v,by rw[c,h1];rfl,h2]
 ·obtain⟨j,s0,_,c,h0,rfl⟩:=aC2 h (by rintro rfl;cases hs);rw[aLb]at hs;obtain⟨p,S,h1,h2⟩:=e.hd j s0 w h0 hs;exact#[p,S,by rw[c,h1];rfl,h2]
def jT(f:#v[y]):List U->List U->(List U->Prop)->Prop
 | [],acc,R=>R acc
 |u::r,acc,R=>f u λo=>match o with
  |some x=>jT f r (acc++[x]) R
  |none=>jT f r acc R
def aY2(G:TVg)(F:TV)(ρ:EV):U->(Option U->Prop)->Prop:=λu k=>G u ρ λρ1=>F ρ1 λs=>s.es λx=>k (some x)
def aXk(G:TVg)(C:TVc)(F:TV)(ρ:EV):U->(Option U->Prop)->Prop:=λu k=>G u ρ λρ1=>C ρ1 λc=>(c=true->F ρ1 λs=>s.es λx=>k (some x))/\(c=false->k none)
structure CI(W B:Addr->Prop)(H1:Hp)(D:Addr)(ρ:EV)(us:List U)(acc:List V)(σ:St)(H:Hp):Prop where
 ee:EE W (λb=>B b∨b=D) H ρ σ
 od:∀(i:Nat)(s:Sl)(w:Own),ρ[i]? =some s->s.hold=some w->∃p S,σ[i]? =some (some (V.ref p))/\(∀b,S b->¬W b)/\¬S D/\w.φ W (λb=>B b∨b=D) S H p
 fw:Fw W H1 H
 dl:H D=some (.lst acc)
 du:DUs W (λb=>B b∨b=D) H us acc
def EE.plus{W B:Addr->Prop}{H:Hp}{ρ:EV}{σ:St}{D:Addr}{x:HO}(e:#v[41])(n:H D=none)(m:Mt x:=by trivial):EE W (λb=>B b∨b=D) (upd H D x) ρ σ:=by
 have f:=e.eb.new (o:=x) n;have k:∀b o,¬B b->H b=some o->¬(B b∨b=D)/\upd H D x b=some o:=λb o nb h=>#[λz=>z.elim nb (aR h n),(e.eb.keep f b o nb h).2];refine#[#[λp hp=>?_,λp hp=> .inl (e.eb.wb p hp),f.wo],e.len,λi u h=>?_,λi s w h hs=>?_]
 ·rcases hp with hp|hp
  ·exact(e.eb.to f).bl p hp
  ·rw[hp,aP];exact#[_,rfl,m]
 ·obtain⟨v,h1,h2⟩:=e.sh i u h;exact#[v,h1,DU.mono k u h2]
 ·obtain⟨p,S,h1,h2,h3⟩:=e.hd i s w h hs;exact#[p,S,h1,h2,w.mono k (λb hb=>let⟨y,hx,_⟩:=w.th h3 b hb;aN (aR hx n)) h3]
def EE.as{W B:Addr->Prop}{H:Hp}{σ σ':St}(e:#v[41])(ρo:∀(i:Nat)(s:Sl),ρ[i]? =some s->s≠Sl.no->σ'[i]? =σ[i]?)(l:σ'.length=σ.length):EE W B H ρ σ':=
 ⟨e.eb,e.len.trans l.symm,λi u h=>by rw[ρo i _ h (by intro z;cases z)];exact e.sh i u h,λi s w h hs=>by
  rw[ρo i s h (by rintro rfl;cases hs)];exact e.hd i s w h hs⟩
def CI.to{W B:Addr->Prop}{H1 H H2:Hp}{D:Addr}{ρ:EV}{us:List U}{acc:List V}{σ σ':St}(c:CI W B H1 D ρ us acc σ H)(nw:¬W D)(f:Fw W H H2)(ρo:∀(i:Nat)(s:Sl),ρ[i]? =some s->s≠Sl.no->σ'[i]? =σ[i]?)(l:σ'.length=σ.length):CI W B H1 D ρ us acc σ' H2:=
 ⟨(c.ee.to f).as ρo l,λi m w h hs=>by
  rw[ρo i m h (by rintro rfl;cases hs)];obtain⟨p,S,h1,h2,h3,h4⟩:=c.od i m w h hs;exact#[p,S,h1,h2,h3,w.to c.ee.eb f h2 h4],c.fw.trans f,f.fr _ _ nw c.dl,DUs.mono (c.ee.eb.keep f) us c.du⟩
def CI.put{W B:Addr->Prop}{H1 H:Hp}{D:Addr}{ρ:EV}{us:List U}{acc:List V}{σ:St}{u:U}(c:CI W B H1 D ρ us acc σ H)(n1:H1 D=none)(nw:¬W D)(d:DU W (λb=>B b∨b=D) H u v):CI W B H1 D ρ (us++[u]) (acc++[v]) σ (upd H D (.lst (acc++[v]))):=by
 have k:∀b o,¬(B b∨b=D)->H b=some o->¬(B b∨b=D)/\upd H D (.lst (acc++[v])) b=some o:=λb o nb h=>#[nb,(aN (λz=>nb (.inr z))).trans h];have ww:∀p,W p->Wll (upd H D (.lst (acc++[v]))) p:=λp hp=>by
  obtain⟨x,y,z,h⟩:=c.fw.wo p hp;exact#[x,y,z,(aN (λq:p=D=>nw (by rw[<-q];exact hp))).trans h]
 have od:∀(i:Nat)(s:Sl)(w:Own),ρ[i]? =some s->s.hold=some w->∃p S,σ[i]? =some (some (V.ref p))/\(∀b,S b->¬W b)/\¬S D/\w.φ W (λb=>B b∨b=D) S (upd H D (.lst (acc++[v]))) p:=λi s w h hs=>by
  obtain⟨p,S,h1,h2,h3,h4⟩:=c.od i s w h hs;exact#[p,S,h1,h2,h3,w.mono k (λb hb=>aN (λq:b=D=>h3 (by rw[<-q];exact hb))) h4]
 refine#[#[#[λp hp=>?_,c.ee.eb.wb,ww],c.ee.len,λi u' h=>?_,λi m w h hs=>let⟨p,S,h1,h2,_,h4⟩:=od i m w h hs;#[p,S,h1,h2,h4]],od,#[λb o w h=>?_,ww],aP,DUs.mono k _ (c.du.app (DUs.one d))]
 ·by_cases z:p=D
  ·rw[z,aP];exact#[_,rfl,trivial]
  ·rw[aN z];exact c.ee.eb.bl p hp
 ·obtain⟨v',h1,h2⟩:=c.ee.sh i u' h;exact#[v',h1,DU.mono k u' h2]
 ·rw[aN (aR h n1)];exact c.fw.fr b o w h
def aQb{no:Nat}{cap:#v[14]}{ρ:EV}{σ σ':St}(a:∀i,no<=i->σ'[i]? =σ[i]?):∀(i:Nat)(s:Sl),#v[97][i]? =some s->s≠Sl.no->σ'[i]? =σ[i]? :=λi s h n=>let⟨_,_,q,_⟩:=aC2 h n;a i q
structure WkC(W B:Addr->Prop)(H1:Hp)(J:It)(l:List U):Prop where
 stop:∀{B2 H2},Tr B H1 B2 H2->Fw W H1 H2->J.stop l.length H2
 go:∀{B2 H2} i,Tr B H1 B2 H2->Fw W H1 H2->i<l.length->J.go i H2
 yld:∀{B2 H2}(i:Nat){x H' u},EB W B2 H2->Tr B H1 B2 H2->Fw W H1 H2->l[i]? =some u->J.yld i H2 x H'->Fw W H2 H'/\DU W B2 H' u x
def aS0(wi:TI)(F:TVa):Prop:=∀{W B:Addr->Prop}{ρ:EV}{σ:St}{H:Hp}{R:List U->Prop}{Q:It->Hp->Prop},EE W B H ρ σ->F ρ R->(∀l J H',R l->Fw W H H'->WkC W B H' J l->Q J H')->wi σ H Q
def VIc(X:Cx)(tg iter:Expr)(F:TVa):Prop:=∃wi,PI X tg iter wi/\aS0 wi F
def vic{X:Cx}{tg iter:Expr}{F:TVa}(h:VI X tg iter F):VIc X tg iter F:=let⟨wi,p,f⟩:=h;#[wi,p,λe h q=>f e h λl J H' h1 w k=>q l J H' h1 w #[λt _=>k.stop t,λi t _ hi=>k.go i t hi,λi _ _ _ e t _ h y=>k.yld i e t h y]]
def aAg(no:Nat)(cap:#v[14])(Fi:TVa)(G:TVg)(F:TV):TV:=λρ R=>Fi ρ λl=>l.length<=10000/\jT (aY2 G F #v[97]) l [] λus=>R (.ow us)
def aG1(no:Nat)(cap:#v[14])(Fi:TVa)(G:TVg)(C:TVc)(F:TV):TV:=λρ R=>Fi ρ λl=>l.length<=10000/\jT (aXk G C F #v[97]) l [] λus=>R (.ow us)
def CW(W B:Addr->Prop)(H1:Hp)(D:Addr)(ρ:EV)(l:List U)(f:#v[y])(R:List U->Prop)(i m:Nat)(σ:St)(H:Hp):Prop:=m=l.length-i/\i<=l.length/\∃us acc,CI W B H1 D ρ us acc σ H/\us.length<=i/\jT f (l.drop i) us R
def CW.beg{W B:Addr->Prop}{H1:Hp}{D:Addr}{ρ:EV}{σ:St}{no:Nat}{cap:#v[14]}{l:List U}{f:#v[y]}{R:List U->Prop}(e:EE W B H1 ρ σ)(n1:H1 D=none)(h:jT f l [] R):CW W B H1 D #v[97] l f R 0 l.length (nU no cap σ) (upd H1 D (.lst [])):=by
 refine#[by simp,Bg _,[],[],#[e.cap.plus n1,λi m w h hs=>?_,e.eb.new n1,aP,rfl],Aj _,h];obtain⟨p,S,h1,h2,h3⟩:=e.cap.hd i m w h hs;have f:=e.eb.new (o:=.lst []) n1;refine#[p,S,h1,h2,λz=>?_,w.mono (λb o nb h=>#[λz=>z.elim nb (aR h n1),(e.eb.keep f b o nb h).2]) (λb hb=>let⟨x,hx,_⟩:=w.th h3 b hb;aN (aR hx n1)) h3];obtain⟨x,hx,_⟩:=w.th h3 D z;rw[n1]at hx;cases hx
def CW.turn{W B:Addr->Prop}{H1 H H3:Hp}{D:Addr}{ρ:EV}{σ σ0:St}{no:Nat}{cap:#v[14]}{l:List U}{f:#v[y]}{R:List U->Prop}{i m:Nat}{J:It}{x:V}(e:EE W B H1 ρ σ0)(n1:H1 D=none)(ll:l.length<=10000)(wk:WkC W B H1 J l)(hlt:i<l.length)(c:CW W B H1 D #v[97] l f R i m σ H)(y:J.yld i H x H3):
  ∃u us,EE W (λb=>B b∨b=D) H3 #v[97] σ/\DU W (λb=>B b∨b=D) H3 u x/\f u (λo=>match o with|some y=>jT f (l.drop (i+1)) (us++[y]) R|none=>jT f (l.drop (i+1)) us R)/\
   (∀(y:U)(v:V)(σ':St)(H':Hp),jT f (l.drop (i+1)) (us++[y]) R->Fw W H3 H'->DU W (λb=>B b∨b=D) H' y v->σ'.length=σ.length->(∀i,no<=i->σ'[i]? =σ[i]?)->∃ys,H' D=some (.lst ys)/\ys.length<sizeLine/\∃m',m'<m/\CW W B H1 D #v[97] l f R (i+1) m' σ' (upd H' D (.lst (ys++[v]))))/\
   (∀(σ':St)(H':Hp),jT f (l.drop (i+1)) us R->Fw W H3 H'->σ'.length=σ.length->(∀i,no<=i->σ'[i]? =σ[i]?)->∃m',m'<m/\CW W B H1 D #v[97] l f R (i+1) m' σ' H'):=by
 have nw:¬W D:=λw=>e.eb.dm D (e.eb.wb D w) n1;obtain⟨rfl,hi,us,acc,c,hl,h2⟩:=c;rw[Fp hlt]at h2;have tr:Tr B H1 (λb=>B b∨b=D) H:=λb o nb h=>#[λz=>z.elim nb (aR h n1),(e.eb.keep c.fw b o nb h).2];obtain⟨w3,d⟩:=wk.yld i c.ee.eb tr c.fw (Ag hlt) y;have c3:=c.to (σ':=σ) nw w3 (λ_ _ _ _=>rfl) rfl;have hz:(10000:Nat)<sizeLine:=by decide
 refine#[l[i],us,c3.ee,d,h2,λy v σ' H' h3 f3 d3 l3 a3=>?_,λσ' H' h3 f3 l3 a3=>#[l.length-(i+1),∅,rfl,hlt,us,acc,c3.to nw f3 (aQb a3) l3,∅,h3]];have c4:=c3.to nw f3 (aQb a3) l3;have hz2:=c4.du.length;refine#[acc,c4.dl,∅,l.length-(i+1),∅,rfl,hlt,us++[y],acc++[v],c4.put n1 nw d3,?_,h3];rw[Al];show us.length+1<=i+1
 lia
def CW.end_{W B:Addr->Prop}{H0 H1 H:Hp}{D:Addr}{ρ:EV}{σ:St}{l:List U}{f:#v[y]}{R:Sl->Prop}{Q:VK}{m:Nat}(w:Fw W H0 H1)(n1:H1 D=none)(c:CW W B H1 D ρ l f (λus=>R (.ow us)) l.length m σ H)(q:∀s v H',R s->Fw W H0 H'->RO W B H0 H' s v->Q v H'):Q (.ref D) H:=by
 obtain⟨_,_,us,acc,c,_,h2⟩:=c;rw[Mv]at h2;exact q _ _ _ h2 (w.trans c.fw) (RO.back (s:=.ow us) w #[D,acc,rfl,n1,c.dl,c.du])
def vY{no:Nat}{cap:#v[14]}{Fi:TVa}{G:TVg}{F:TV}(hi:aS0 wi Fi)(hg:VTh no g G):VT (vW no cap wi g (tV F)) (aAg no cap Fi G F):=λ{W B ρ σ H R Q} e h q=>hi e h λl J H1 h1 w wk D n1=>by
 have e1:=e.to w;refine#[CW W B H1 D #v[97] l _ _,#[_,CW.beg e1 n1 h1.2],λi m σ2 H2 c=>?_];have tr:Tr B H1 (λb=>B b∨b=D) H2:=let⟨_,_,_,_,c,_⟩:=c;λb o nb h=>#[λz=>z.elim nb (aR h n1),(e1.eb.keep c.fw b o nb h).2];have fw:Fw W H1 H2:=let⟨_,_,_,_,c,_⟩:=c;c.fw;by_cases hlt:i<l.length
 ·refine .inr #[wk.go i tr fw hlt,λx H3 y=>?_];obtain⟨u,us,e3,d3,h3,put,_⟩:=c.turn e1 n1 h1.1 wk hlt y;refine hg e3 d3 h3 λρ' σ' e' l' a' h'=>#[W,_,ρ',_,e',h',λs v H5 h5 w5 r5=>?_];obtain⟨y,hy,dy⟩:=r5.du e'.eb h5;exact put y v σ' H5 hy w5 dy l' a'
 ·have hi':=c.2.1;obtain rfl:i=l.length:=by lia
  exact .inl #[wk.stop tr fw,c.end_ w n1 q]
def aGs{no:Nat}{cap:#v[14]}{Fi:TVa}{G:TVg}{C:TVc}{F:TV}(hi:aS0 wi Fi)(hg:VTh no g G):VT (uC no cap wi g (tVc C) (tV F)) (aG1 no cap Fi G C F):=λ{W B ρ σ H R Q} e h q=>hi e h λl J H1 h1 w wk D n1=>by
 have e1:=e.to w;refine#[CW W B H1 D #v[97] l _ _,#[_,CW.beg e1 n1 h1.2],λi m σ2 H2 c=>?_];have tr:Tr B H1 (λb=>B b∨b=D) H2:=let⟨_,_,_,_,c,_⟩:=c;λb o nb h=>#[λz=>z.elim nb (aR h n1),(e1.eb.keep c.fw b o nb h).2];have fw:Fw W H1 H2:=let⟨_,_,_,_,c,_⟩:=c;c.fw;by_cases hlt:i<l.length
 ·refine .inr #[wk.go i tr fw hlt,λx H3 y=>?_];obtain⟨u,us,e3,d3,h3,put,skip⟩:=c.turn e1 n1 h1.1 wk hlt y;refine hg e3 d3 h3 λρ' σ' e' l' a' h'=>#[W,_,ρ',_,e',h',λc H4 h4 w4=>?_];cases c with
  |true=>
   refine aEe #[W,_,ρ',_,e'.to w4,h4.1 rfl,λs v H5 h5 w5 r5=>?_];obtain⟨y,hy,dy⟩:=r5.du (e'.to w4).eb h5;exact put y v σ' H5 hy (w4.trans w5) dy l' a'
  |false=>exact rG (skip σ' H4 (h4.2 rfl) w4 l' a')
 ·have hi':=c.2.1;obtain rfl:i=l.length:=by lia
  exact .inl #[wk.stop tr fw,c.end_ w n1 q]
def dR{elt iter tg:Expr}{own:List Str}{cap:#v[14]}{Fi:TVa}{G:TVg}{F:TV}(sc0:Scope)(N0:List Str)(hsc:#v[64])(hN:X.N=N0)(hcell:HC X)
  (ok:#v[75]) (hc:X.calm=true) (hi:VIc X tg iter Fi) (hg:#v[K]) (hG:VTh own.length g G) (he:∀cl C s2 H2 fp,VE #v[3] elt F)
  (hs:FS X iter:=by intro _;rfl):VE X #v[10] (aAg own.length cap Fi G F):=
 let⟨_,p,f⟩:=hi;#[_,aZ1 sc0 N0 hsc hN hcell ok hc p hg (λcl C s2 H2 fp=>(he cl C s2 H2 fp).can) hs,vY f hG]
def aD0{elt iter tg ci:Expr}{own:List Str}{cap:#v[14]}{Fi:TVa}{G:TVg}{C:TVc}{F:TV}(sc0:Scope)(N0:List Str)(hsc:#v[64])(hN:X.N=N0)(hcell:HC X)
  (ok:#v[75]) (hc:X.calm=true) (hi:VIc X tg iter Fi) (hg:#v[K]) (hG:VTh own.length g G) (hC:∀cl C' s2 H2 fp,VC (bD X (cL own cap) scope cl C' s2 H2 fp) ci C) (he:∀cl C s2 H2 fp,VE #v[3] elt F)
  (hs:FS X iter:=by intro _;rfl):VE X #v[11] (aG1 own.length cap Fi G C F):=
 let⟨_,p,f⟩:=hi;#[_,aVs sc0 N0 hsc hN hcell ok hc p hg (λcl C s2 H2 fp=>(hC cl C s2 H2 fp).can) (λcl C s2 H2 fp=>(he cl C s2 H2 fp).can) hs,aGs f hG]
def aMv{x:Str}{elt iter tg:Expr}{own:List Str}{cap:#v[14]}{pos spos py:Pos}{Fi:TVa}{G:TVg}{F:TV}(hnd:X.N.Nodup)(sc0:Scope)(N0:List Str)(hsc:#v[64])(hN:X.N=N0)(hcell:HC X)
  (ok:#v[75]) (hc:X.calm=true) (hi:VIc X tg iter Fi) (hg:#v[K]) (hG:VTh own.length g G) (he:∀cl C s2 H2 fp,VE #v[3] elt F)
  (hi':X.N[i]? =some x:=by rfl) (hx:#v[C]:=by exact Cv rfl) (hsw:#v[k]:=by rfl)
  (hs:FS X iter:=by intro _;rfl) (hf:FL X x:=by trivial):VS X #v[22] (aPk i (aAg own.length cap Fi G F)):=
 let⟨_,p,f⟩:=hi;#[_,aUq hnd hi' hx sc0 N0 hsc hN hcell ok hc p hg (λcl C s2 H2 fp=>(he cl C s2 H2 fp).can) hsw hs hf,λo h j=>vY f hG o.ee h λs v H1 h1 w r=>aAe o w r h1 j.nx]
def aWs{x:Str}{elt iter tg ci:Expr}{own:List Str}{cap:#v[14]}{pos spos py:Pos}{Fi:TVa}{G:TVg}{C:TVc}{F:TV}(hnd:X.N.Nodup)(sc0:Scope)(N0:List Str)(hsc:#v[64])(hN:X.N=N0)(hcell:HC X)
  (ok:#v[75]) (hc:X.calm=true) (hi:VIc X tg iter Fi) (hg:#v[K]) (hG:VTh own.length g G) (hC:∀cl C' s2 H2 fp,VC (bD X (cL own cap) scope cl C' s2 H2 fp) ci C) (he:∀cl C s2 H2 fp,VE #v[3] elt F)
  (hi':X.N[i]? =some x:=by rfl) (hx:#v[C]:=by exact Cv rfl) (hsw:#v[57]:=by rfl)
  (hs:FS X iter:=by intro _;rfl) (hf:FL X x:=by trivial):VS X (.Assign [.Name x py] #v[11] spos) (aPk i (aG1 own.length cap Fi G C F)):=
 let⟨_,p,f⟩:=hi;#[_,aWm hnd hi' hx sc0 N0 hsc hN hcell ok hc p hg (λcl C s2 H2 fp=>(hC cl C s2 H2 fp).can) (λcl C s2 H2 fp=>(he cl C s2 H2 fp).can) hsw hs hf,λo h j=>aGs f hG o.ee h λs v H1 h1 w r=>aAe o w r h1 j.nx]
def lO{op}{F:TV}(h:VE X a F):VE X (.BoolOp op [a] pos) F:=let⟨_,p,f⟩:=h;#[_,aVo p,f]
def aHu(g:#v[q])(G:TVa):TV:=λρ R=>G ρ λus=>g us R
def aO{id:String}{g:#v[q]}{x:Str}{es:List Expr}{G:TVa}{p pos:Pos}(hc:dO X (.builtin id) r)(cb:CB r g)(hm:X.mg x=none)(hv:bootBuiltins x=some (.builtin id))(ha:VB X (a::es) G)(hg:Gl X x:=by rfl)(hn:x≠"__name__":=by decide)(hdb:ND x:=by decide)
  (he:SE X a es:=by rfl) (hpl:BT X pos es:=by rfl):VE X #v[51] (aHu g G):=
 let⟨_,p,f⟩:=ha;#[_,iH hc hg hm hv p hn hdb he hpl,λe h q=>f e h λus vs H1 h1 w d=>cb (e.to w).eb d h1 λs z H2 h2 w2 r=>q _ _ _ h2 (w.trans w2) (r.back w)]
def dC{T:String}{g:#v[q]}{x:Str}{es:List Expr}{G:TVa}{p pos:Pos}(hc:dO X (.type T) r)(cb:CB r g)(hm:X.mg x=none)(hv:bootBuiltins x=some (.type T))(ha:VB X (a::es) G)(hg:Gl X x:=by rfl)(hn:x≠"__name__":=by decide)(hdb:ND x:=by decide)
  (he:SE X a es:=by rfl) (hpl:BT X pos es:=by rfl):VE X #v[51] (aHu g G):=
 let⟨_,p,f⟩:=ha;#[_,gO hc hg hm hv p hn hdb he hpl,λe h q=>f e h λus vs H1 h1 w d=>cb (e.to w).eb d h1 λs z H2 h2 w2 r=>q _ _ _ h2 (w.trans w2) (r.back w)]
def gIx:U->U->(Sl->Prop)->Prop
 |.ls l,.v (.int i),R=>∃u,atI l i=some u/\R (.sh u)
 |.tp l,.v (.int i),R=>∃u,atI l i=some u/\R (.sh u)
 |_,_,_=>False
def bI{K:Ad}:O2 (rIx K) gIx:=λ{W B H u v x y R Q} e d1 d2 h q=>by
 unfold gIx at h;split at h
 ·exact .inl (aXn e d1 d2 h q)
 ·exact .inr (.inl (aVn e d1 d2 h q))
 ·exact h.elim
def aYi:U->U->(Sl->Prop)->Prop
 |.v (.int i),.v (.int j),R=>R (.sh (.n (i+j)))
 |.v (.str a),.v (.str b),R=>a.length+b.length<=10000/\R (.sh (.s (a++b)))
 |.ls l,.ls m,R=>l.length+m.length<=10000/\R (.ow (l++m))
 |.tp l,.tp m,R=>l.length+m.length<=10000/\R (.sh (.tp (l++m)))
 |_,_,_=>False
def sz4(h:n<=10000):n<=sizeLine:=Ci h ⋯
def aTv(X:Cx):R2:=λx y H Q=>(∃i j,x=.int i/\y=.int j/\Q (.int (i+j)) H)∨(∃i j,x=.str i/\y=.str j/\i.length+j.length<=sizeLine/\Q (.str (i++j)) H)∨aZm x y H Q∨aUm X.K x y H Q∨∃a b ys,x=.ref a/\y=.ref b/\SqT X.K H a []/\SqT X.K H b ys/\Q (.ref b) H
def dH:OpR X (binaryOp .Add) (aTv X):=xO.or (aH4.or (aXm.or (aRs.or aPd)))
def fH:O2 (aTv X) aYi:=λ{W B H u v x y R Q} e d1 d2 h q=>by
 unfold aYi at h;split at h
 ·exact .inl #[_,_,d1.int,d2.int,q _ _ _ h e.refl #[rfl,rfl]]
 ·exact .inr (.inl #[_,_,d1.fl.1,d2.fl.1,sz4 h.1,q _ _ _ h.2 e.refl #[rfl,rfl]])
 ·obtain⟨p,xs,rfl,_,h1,ds⟩:=d1.ls e;obtain⟨p',ys,rfl,_,h2,ds'⟩:=d2.ls e;have:=ds.length;have:=ds'.length;refine .inr (.inr (.inl #[p,p',xs,ys,rfl,rfl,h1,h2,sz4 ∅,λr n=>?_]));have f:=e.new (o:=.lst (xs++ys)) n;exact q _ _ _ h.2 f #[r,_,rfl,n,aP,DUs.mono (λb o nb h=>#[λz=>z.elim nb (aR h n),(e.keep f b o nb h).2]) _ (ds.app ds')]
 ·rename_i l m;obtain⟨p,xs,rfl,_,h1,ds⟩:=d1.tp;obtain⟨p',ys,rfl,nb,h2,ds'⟩:=d2.tp;have:=ds.length;have:=ds'.length;cases l with
  |nil=>
   rw[show xs=[]from ds]at h1;exact .inr (.inr (.inr (.inr #[p,p',ys,rfl,rfl,SqT.of h1,SqT.of h2,q (.sh (.tp m)) _ _ h.2 e.refl #[p',ys,rfl,nb,h2,ds']])))
  |cons a l=>
   refine .inr (.inr (.inr (.inl #[p,p',xs,ys,rfl,rfl,SqT.of h1,SqT.of h2,?_,sz4 ∅,λz=>?_,λ_ r n=>?_])))
   ·intro z;rw[z]at ds;obtain⟨_,_,e1,_⟩:=ds;cases e1
   ·subst z;have hm:m=[]:=List.length_eq_zero_iff.mp (by simpa using this);subst hm;exact q _ _ _ h.2 e.refl #[p,xs,rfl,by assumption,h1,by rw[Bb];exact ds]
   ·have f:=e.new (o:=.tup (xs++ys)) n;exact q _ _ _ h.2 f #[r,_,rfl,e.nw n,aP,DUs.mono (e.keep f) _ (ds.app ds')]
 ·exact h.elim
def aG7(g g':#v[Q])(a b c:TV):TV:=λρ R=>a ρ λs=>b ρ λs'=>g s.rd s'.rd λr=>match r.rd with
 |.v (.bl k)=>(k=true->c ρ λs''=>g' s'.rd s''.rd R)/\(k=false->R (.sh (.b false)))
 |_=>False
def aFw{r r':R2}{g g':#v[Q]}{ta tb tc:TE}{F G E:TV}(o:O2 r g)(o':O2 r' g')(ha:VT ta F)(hb:VT tb G)(hc:VT tc E):VT (aH7 r r' ta tb tc) (aG7 g g' F G E):=λe h q=>by
 refine ha e h λs v H1 h1 f1 r1=>?_;have e1:=e.to f1;refine hb e1 h1 λs' v' H2 h2 f2 r2=>?_;have e2:=e1.to f2;have db2:=r2.db e1.eb;refine o e2.eb ((r1.db e.eb).to e1.eb f2) db2 h2 λs3 z H3 h3 f3 r3=>?_;have d:=r3.db e2.eb;revert h3 d;generalize s3.rd=u;intro h3 d;split at h3
 ·rename_i k;refine#[k,d.fl.1,?_];have e3:=e2.to f3;cases k with
  |true=>
   refine aEe (hc e3 (h3.1 rfl) λs4 v4 H4 h4 f4 r4=>?_);refine o' (e3.to f4).eb ((db2.to e2.eb f3).to e3.eb f4) (r4.db e3.eb) h4 λs5 v5 H5 h5 f5 r5=>?_;have ff:=(#v[50].trans f3).trans f4;exact q _ _ _ h5 (ff.trans f5) (r5.back ff)
  |false=>exact rG (q _ _ _ (h3.2 rfl) (#v[50].trans f3) #[rfl,rfl])
 ·exact h3.elim
def aNp{op op':CmpOp}{r r':R2}{g g':#v[Q]}{a b c:Expr}{F G E:TV}(ho:#v[54])(ho':OpR X (compareOp op') r')(o:O2 r g)(o':O2 r' g')(ha:VE X a F)(hb:VE X b G)(hc:VE X c E)(hm:lastMarks [op,op'] [b,c]=false:=by with_unfolding_all rfl):VE X (.Compare a [op,op'] [b,c] pos) (aG7 g g' F G E):=
 let⟨_,p,f⟩:=ha;let⟨_,p1,f1⟩:=hb;let⟨_,p2,f2⟩:=hc;#[_,aOr ho ho' p p1 p2 hm,aFw o o' f f1 f2]
def aFq{op op':CmpOp}{r r':R2}{g g':#v[Q]}{a b c:Expr}{F G E:TV}(ho:#v[54])(ho':OpR X (compareOp op') r')(o:O2 r g)(o':O2 r' g')(ha:VE X a F)(hb:VE X b G)(hc:VE X c E)(hm:lastMarks [op,op'] [b,c]=false:=by with_unfolding_all rfl):VC X (.Compare a [op,op'] [b,c] pos) (mV (aG7 g g' F G E)):=
 let⟨_,p,f⟩:=ha;let⟨_,p1,f1⟩:=hb;let⟨_,p2,f2⟩:=hc;#[_,aN7 ho ho' p p1 p2 hm,yU (aFw o o' f f1 f2)]
def vUn(g:Int->Int)(a:TV):TV:=λρ R=>a ρ λs=>match s.rd with
 |.v (.int i)=>R (.sh (.n (g i)))
 |_=>False
def aMi{F:TV}(ha:VE X a F):VE X (.UnaryOp .USub a pos) (vUn (λi=> -i) F):=let⟨_,p,f⟩:=ha;⟨_,aZ4 aWq p,λe h q=>f e h λs v H1 h1 f1 r=>by
 have d:=r.db e.eb;revert h1 d;generalize s.rd=u;intro h1 d;split at h1
 ·exact#[_,d.int,q _ _ _ h1 f1 #[rfl,rfl]]
 ·exact h1.elim⟩
def DBs.one{W B:Addr->Prop}{H:Hp}(h:DBs W B H [u] vs):∃x,vs=[x]/\DB W B H u x:=by
 obtain⟨x,r,e,d,t⟩:=h;obtain rfl:r=[]:=t;exact#[x,e,d]
def DBs.two{W B:Addr->Prop}{H:Hp}{u v:U}(h:DBs W B H [u,v] vs):∃x y,vs=[x,y]/\DB W B H u x/\DB W B H v y:=by
 obtain⟨x,r,e,d,y,r',rfl,d',t⟩:=h;obtain rfl:r'=[]:=t;exact#[x,y,e,d,d']
def aWv:List U->(Sl->Prop)->Prop
 | [.ls l],R=>R (.sh (.n l.length))
 | [.tp l],R=>R (.sh (.n l.length))
 |_,_=>False
def bF{K:Ad}:CB (λxs H Q=>∃p ys,xs=[.ref p]/\(SqL K H p ys∨SqT K H p ys)/\Q (.int ys.length) H) aWv:=λ{W B H us vs R Q} e d h q=>by
 unfold aWv at h;split at h
 ·obtain⟨x,rfl,dd⟩:=DBs.one d;obtain⟨p,xs,rfl,_,hp,ds⟩:=dd.ls e;exact#[p,xs,rfl,.inl (SqL.of hp),by rw[<-ds.length];exact q _ _ _ h e.refl #[rfl,rfl]]
 ·obtain⟨x,rfl,dd⟩:=DBs.one d;obtain⟨p,xs,rfl,_,hp,ds⟩:=dd.tp;exact#[p,xs,rfl,.inr (SqT.of hp),by rw[<-ds.length];exact q _ _ _ h e.refl #[rfl,rfl]]
 ·exact h.elim
def DUs.bls{W B:Addr->Prop}{H:Hp}:∀{bs:List Bool}{xs:List V},DUs W B H (bs.map U.b) xs->xs=bs.map V.bl
 | [],_,h=>h
 |_::_,_,⟨x,r,e,d,t⟩=>by rw[e,d.1,DUs.bls t];rfl
def DUs.ints{W B:Addr->Prop}{H:Hp}:∀{ns:List Int}{xs:List V},DUs W B H #v[w] xs->xs=ns.map V.int
 | [],_,h=>h
 |_::_,_,⟨x,r,e,d,t⟩=>by rw[e,d.1,DUs.ints t];rfl
inductive aUo(f:List Bool->Bool)(us:List U)(R:(Sl->Prop)):Prop
 |mk (bs:List Bool) (q0_:us=[.ls (bs.map U.b)]) (q1_:R (.sh (.b (f bs)))):aUo f us R
def bB8(f:List Bool->Bool):List U->(Sl->Prop)->Prop:=λus R=>aUo f us R
def qY{X:Cx}{f:List Bool->Bool}(hc:X.calm=true):CB (λxs H Q=>∃(p:Addr)(bs:List Bool),xs=[.ref p]/\SqL X.K H p (bs.map V.bl)/\X.calm=true/\Q (.bl (f bs)) H) (bB8 f):=λ{W B H us vs R Q} e d ⟨bs,eu,h⟩ q=>by
 subst eu;obtain⟨x,rfl,dd⟩:=DBs.one d;obtain⟨p,xs,rfl,_,hp,ds⟩:=dd.ls e;rw[ds.bls]at hp;exact#[p,bs,rfl,SqL.of hp,hc,q _ _ _ h e.refl #[rfl,rfl]]
def aYm:List U->(Sl->Prop)->Prop
 | [.v (.int i)],R=>R (.sh (.n i))
 | [.v (.bl k)],R=>R (.sh (.n (if k then 1 else 0)))
 |_,_=>False
def zT:CB (λxs H Q=>(∃i,xs=[.int i]/\Q (.int i) H)∨∃k,xs=[.bl k]/\Q (.int (if k then 1 else 0)) H) aYm:=λ{W B H us vs R Q} e d h q=>by
 unfold aYm at h;split at h
 ·obtain⟨x,rfl,dd⟩:=DBs.one d;exact .inl #[_,by rw[dd.int],q _ _ _ h e.refl #[rfl,rfl]]
 ·obtain⟨x,rfl,dd⟩:=DBs.one d;exact .inr #[_,by rw[dd.fl.1],q _ _ _ h e.refl #[rfl,rfl]]
 ·exact h.elim
def aUj:List U->(Sl->Prop)->Prop
 | [.ls l],R=>R (.ow l)
 | [.tp l],R=>R (.ow l)
 |_,_=>False
def lC{K:Ad}:CB (aMr K) aUj:=λ{W B H us vs R Q} e d h q=>by
 have fin:∀{l ys}(ds:DUs W B H l ys)(h:R (.ow l)) r,H r=none->Q (.ref r) (upd H r (.lst ys)):=λ{l ys} ds h r n=>by
  have f:=e.new (o:=.lst ys) n;exact q _ _ _ h f #[r,_,rfl,n,aP,DUs.mono (λb o nb h=>#[λz=>z.elim nb (aR h n),(e.keep f b o nb h).2]) _ ds]
 unfold aUj at h;split at h
 ·obtain⟨x,rfl,dd⟩:=DBs.one d;obtain⟨p,xs,rfl,_,hp,ds⟩:=dd.ls e;exact#[p,xs,rfl,.inl (SqL.of hp),fin ds h]
 ·obtain⟨x,rfl,dd⟩:=DBs.one d;obtain⟨p,xs,rfl,_,hp,ds⟩:=dd.tp;exact#[p,xs,rfl,.inr (SqT.of hp),fin ds h]
 ·exact h.elim
def aOy:List U->(Sl->Prop)->Prop
 | [.ls l],R=>R (.sh (.tp l))
 | [.tp l],R=>R (.sh (.tp l))
 |_,_=>False
def aOb{K:Ad}:CB (aJw K) aOy:=λ{W B H us vs R Q} e d h q=>by
 unfold aOy at h;split at h
 ·obtain⟨x,rfl,dd⟩:=DBs.one d;obtain⟨p,xs,rfl,_,hp,ds⟩:=dd.ls e;refine#[p,xs,rfl,.inl #[SqL.of hp,λr n=>?_]];have f:=e.new (o:=.tup xs) n;exact q _ _ _ h f #[r,_,rfl,e.nw n,aP,DUs.mono (e.keep f) _ ds]
 ·obtain⟨x,rfl,dd⟩:=DBs.one d;obtain⟨p,xs,rfl,nb,hp,ds⟩:=dd.tp;exact#[p,xs,rfl,.inr #[SqT.of hp,q _ _ _ h e.refl #[p,xs,rfl,nb,hp,ds]]]
 ·exact h.elim
def dB{x:Str}{i:Int}{t:Tok}(hm:X.mg x=some (.int i t))(hg:Gl X x:=by rfl)(hd:ND x:=by decide):VE X (.Name x pos) (vC (.n i)):=#[_,aRg (v:=.int i) hg hm #[_,rfl] hd,aMq rfl]
def jJ{st:Stmt}:VS X st (λ_ _=>False):=#[_,gA,λ_ h _=>h]
def aYf{e:Expr}{F:TV}(he:VE X e F)(hs:swapsWith e none pos.line X.env=pure false:=by rfl):VS X (.Expr e pos) (vDo F):=let⟨_,p,f⟩:=he;#[_,qW p hs,λo h j=>f o.ee h λs v H1 h1 w r=>j.nx (o.to w) h1]
def aSt(neg:Bool)(F:TV):TV:=λρ R=>F ρ λs=>match s.rd with
 |.v x=>R (.sh (.b (if neg then !decide (x=.non)else decide (x=.non))))
 |.op _=>False
 |_=>R (.sh (.b neg))
def DB.non{W B:Addr->Prop}{H:Hp}(e:EB W B H)(d:DB W B H u y)(h1:∀x,u≠.v x)(h2:∀o,u≠.op o):y≠.non:=by
 intro z;subst z;cases u with
 |v x=>exact h1 x rfl
 |op o=>exact h2 o rfl
 |tp l=>obtain⟨_,_,q,_⟩:=d.tp;cases q
 |ls l=>obtain⟨_,_,q,_⟩:=d.ls e;cases q
 |ob C ns us=>obtain⟨_,_,_,q,_⟩:=d.ob;cases q
 |dk ns us=>obtain⟨_,_,q,_⟩:=d.dk;cases q
 |wl=>
  rcases d with ⟨_,q,_⟩|⟨_,_,_,q,_⟩<;>cases q
def aX4{F:TV}(f:VT t F):VT (bAm t) (aSt false F):=λe h q=>f e h λs v H1 h1 w r=>by
 have d:=r.db e.eb;revert h1 d;generalize s.rd=u;intro h1 d;split at h1
 ·rw[d.fl.1];exact q _ _ _ h1 w #[rfl,rfl]
 ·exact h1.elim
 ·rename_i n1 n2;rw[decide_eq_false (d.non (e.to w).eb n1 n2)];exact q _ _ _ h1 w #[rfl,rfl]
def aTj{F:TV}(f:VT t F):VT (aUr t) (aSt true F):=λe h q=>f e h λs v H1 h1 w r=>by
 have d:=r.db e.eb;revert h1 d;generalize s.rd=u;intro h1 d;split at h1
 ·rw[d.fl.1];exact q _ _ _ h1 w #[rfl,rfl]
 ·exact h1.elim
 ·rename_i n1 n2;rw[decide_eq_false (d.non (e.to w).eb n1 n2)];exact q _ _ _ h1 w #[rfl,rfl]
def aUw{F:TV}(h:VT t F):VTc (tB t) (mV F):=yU h
def aU5{j pos pos'}{F:TV}(ha:VE X a F):VC X (.Compare a [.Is] [.Constant .none j pos'] pos) (mV (aSt false F)):=let⟨_,p,f⟩:=ha;#[_,aGy (aWb p),aUw (aX4 f)]
def yP{j pos pos'}{F:TV}(ha:VE X a F):VC X (.Compare a [.IsNot] [.Constant .none j pos'] pos) (mV (aSt true F)):=let⟨_,p,f⟩:=ha;#[_,aGy (aRw p),aUw (aTj f)]
inductive Tg where
 |non|bl|int|str|tp|ls|dk
def tyU:U->Option Tg
 |.v .non=>some .non
 |.v (.bl _)=>some .bl
 |.v (.int _)=>some .int
 |.v (.str _)=>some .str
 |.tp _=>some .tp
 |.ls _=>some .ls
 |.dk _ _=>some .dk
 |_=>none
def Tg.nm:Tg->String
 |.non=>"NoneType"|.bl=>"bool"|.int=>"int"|.str=>"str"|.tp=>"tuple"|.ls=>"list"|.dk=>"dict"
def isT:Tg->Tg->Bool
 |.non,.non=>true
 |.bl,.bl=>true
 |.bl,.int=>true
 |.int,.int=>true
 |.str,.str=>true
 |.tp,.tp=>true
 |.ls,.ls=>true
 |.dk,.dk=>true
 |_,_=>false
def aYj{W B:Addr->Prop}{H:Hp}{u:U}{t:Tg}{K:Ad}(e:EB W B H)(d:DB W B H u y)(h:tyU u=some t):vU K H y (.type t.nm):=by
 unfold tyU at h;split at h<;>cases h
 ·rw[d.fl.1];exact .non
 ·rw[d.fl.1];exact .bl _
 ·rw[d.fl.1];exact .int _
 ·rw[d.fl.1];exact .str _
 ·obtain⟨p,xs,rfl,_,h,_⟩:=d.tp;exact .tup h
 ·obtain⟨p,xs,rfl,_,h,_⟩:=d.ls e;exact .lst h
 ·obtain⟨p,xs,rfl,_,h,_⟩:=d.dk;exact .dK h
def aXc{K:Ad}{t n:Tg}(hn:n≠.non):Nb K (.type t.nm) (.type n.nm)=some (isT t n):=by
 cases t<;>cases n<;>first|rfl|exact(hn rfl).elim
def bA0(n:Tg)(F:TV):TV:=λρ R=>F ρ λs=>∃t,tyU s.rd=some t/\R (.sh (.b (isT t n)))
def iR{x:Str}{F:TV}{p p' pos:Pos}(n:Tg)(hn:n≠.non)(hm:X.mg "isinstance"=none)(hm2:X.mg x=none)(hv:bootBuiltins x=some (.type n.nm))(ha:VE X a F)(hg:Gl X "isinstance":=by rfl)(hg2:Gl X x:=by rfl)(h1:x≠"__name__":=by decide)(h2:ND x:=by decide)
  (hs:starEach [a,.Name x p'] X.env=(false,eval a X.env)::starEach [.Name x p'] X.env:=by rfl) (hs2:starEach [.Name x p'] X.env=(false,eval #v[E] X.env)::starEach [] X.env:=by rfl) (hpl:BT X pos [.Name x p']:=by rfl):
  VE X (.Call (.Name "isinstance" p) [a,.Name x p'] [] pos) (bA0 n F):=
 let⟨_,q,f⟩:=ha;⟨_,iH aEz hg hm Xe (bZ q (bZ (aJ5 (v:=.ty n.nm) hg2 hm2 hv rfl h1 h2) dN hs2) hs) ⋯ ⋯ hs hpl,λe h q=>f e h λs v H1 ⟨t,ht,h1⟩ w r=>
  #[_,_,_,_,rfl,aYj (K:=X.K) (e.to w).eb (r.db e.eb) ht,aXc hn,q _ _ _ h1 w #[rfl,rfl]]⟩
def gIn(neg:Bool):U->U->(Sl->Prop)->Prop
 |u,.ls l,R=>u.dt 40/\U.dts 40 l/\R (.sh (.b (if neg then !(l.any λe=>e.eq u)else l.any λe=>e.eq u)))
 |u,.tp l,R=>u.dt 40/\U.dts 40 l/\R (.sh (.b (if neg then !(l.any λe=>e.eq u)else l.any λe=>e.eq u)))
 |_,_,_=>False
theorem aHl(u:U):∀l:List U,((U.ds l).any λe=>e.eq u.d)=l.any λe=>e.eq u
 | []=>rfl
 |a::l=>by rw[U.ds,Hz,Hz,aHl u l];rfl
def aP9{K:Ad}{neg:Bool}:O2 (aV4 K neg) (gIn neg):=λ{W B H u v x y R Q} e d1 d2 h q=>by
 unfold gIn at h;split at h
 ·obtain⟨t1,t2,h⟩:=h;obtain⟨p,xs,rfl,_,hp,ds⟩:=d2.ls e;have h1:=U.dep 40 u t1;have h2:=U.deps 40 _ t2;exact#[u.d,p,xs,_,d1.den t1,rfl,.inl (SqL.of hp),DUs.dens 40 _ t2 ds,∅,by rw[aHl];exact q _ _ _ h e.refl #[rfl,rfl]]
 ·obtain⟨t1,t2,h⟩:=h;obtain⟨p,xs,rfl,_,hp,ds⟩:=d2.tp;have h1:=U.dep 40 u t1;have h2:=U.deps 40 _ t2;exact#[u.d,p,xs,_,d1.den t1,rfl,.inr (SqT.of hp),DUs.dens 40 _ t2 ds,∅,by rw[aHl];exact q _ _ _ h e.refl #[rfl,rfl]]
 ·exact h.elim
inductive aT7(us:List U)(R:(Sl->Prop)):Prop
 |mk (ns:List Int) (q0_:us=[.ls #v[w]]) (q1_:ns.length<=1000) (q2_:(∀n∈ns,0<=n/\n<=1000)) (q3_:R (.sh (.n ns.sum))):aT7 us R
def bBz:List U->(Sl->Prop)->Prop:=λus R=>aT7 us R
def aDy{K:Ad}:CB (aYy K) bBz:=λ{W B H us vs R Q} e d ⟨ns,eu,hl,hn,h⟩ q=>by
 subst eu;obtain⟨x,rfl,dd⟩:=DBs.one d;obtain⟨p,xs,rfl,_,hp,ds⟩:=dd.ls e;rw[ds.ints]at hp;exact#[p,ns,rfl,SqL.of hp,hl,hn,q _ _ _ h e.refl #[rfl,rfl]]
def gII(f:Int->Int->Int):List U->(Sl->Prop)->Prop
 | [.v (.int i),.v (.int j)],R=>R (.sh (.n (f i j)))
 |_,_=>False
def aTp{f:Int->Int->Int}:CB (λxs H Q=>∃i j,xs=[.int i,.int j]/\Q (.int (f i j)) H) (gII f):=λ{W B H us vs R Q} e d h q=>by
 unfold gII at h;split at h
 ·obtain⟨x,y,rfl,d1,d2⟩:=DBs.two d;exact#[_,_,by rw[d1.int,d2.int],q _ _ _ h e.refl #[rfl,rfl]]
 ·exact h.elim
def aZg(F:TVa)(D:TV):TV:=λρ R=>F ρ λus=>D ρ λs=>∃ns:List Int,us=[.ls #v[w]]/\match s.rd with
 |.v (.int d)=>(ns=[]->R (.sh (.n d)))/\∀m:Int,m∈ns->(∀a∈ns,a<=m)->R (.sh (.n m))
 |_=>False
def uW{k:Expr}{kp:Pos}{F:TVa}{D:TV}{p pos:Pos}(hc:X.calm=true)(hm:X.mg "max"=none)(ha:VB X [a] F)(hk:VE X k D)(hg:Gl X "max":=by rfl)
  (hkw:∀{tk:TE},PE X k tk->PK X [#[some "default",k,kp]] (aJg tk aIm):=by exactλh=>aJh h aP7)
  (hall:#v[j].all (·.1.isSome)=true:=by rfl) (hks:#v[j].filterMap (·.1)=[("default":Str)]:=by rfl)
  (he:SE X a []:=by rfl) (hpl:BT X pos [a]:=by rfl) (hpk:#v[j].any (·.1.isNone)=false:=by rfl):
  VE X (.Call (.Name "max" p) [a] [#[some "default",k,kp]] pos) (aZg F D):=
 let⟨_,q1,f1⟩:=ha;let⟨_,q2,f2⟩:=hk;⟨_,aCe (aJl (g:=true) hc) hg hm Ui q1 (hkw q2) hall hks ⋯ ⋯ he hpl hpk,λe h q=>f1 e h λus vs H1 h1 w1 d1=>f2 (e.to w1) h1 λs v H2 h2 w2 r2=>by
  obtain⟨ns,eu,h2⟩:=h2;subst eu;have e2:=(e.to w1).to w2;obtain⟨x,rfl,d⟩:=DBs.one (DBs.to (e.to w1).eb w2 d1);obtain⟨p,xs,rfl,_,hp,ds⟩:=d.ls e2.eb;rw[ds.ints]at hp;have dd:=r2.db (e.to w1).eb;revert h2 dd;generalize s.rd=u;intro h2 dd;split at h2
  ·rw[dd.int];exact#[p,ns,_,rfl,rfl,SqL.of hp,λz=>q _ _ _ (h2.1 z) (w1.trans w2) #[rfl,rfl],λm hm ha=>q _ _ _ (h2.2 m hm ha) (w1.trans w2) #[rfl,rfl]]
  ·exact h2.elim⟩
def huD{A:Around}(hr:eY k A):A.units+101<cLine:=by have:=hr.un;lia
def Rbl{R:Sl->Prop}{c d:Bool}(q:R (.sh (.b d)))(h:c=d):R (.sh (.b c)):=h▸q
theorem bG{g:TVg}{E:tY}(I:List U->EV->Prop)(hn:∀ρ,I [] ρ->E.nx ρ)(hc:∀u r ρ,I (u::r) ρ->(∀ρ',I r ρ'->iI g b E r ρ')->iI g b E (u::r) ρ):∀{l ρ},I l ρ->iI g b E l ρ
 | [],ρ,h=>hn ρ h
 |u::r,ρ,h=>hc u r ρ h λ_ h'=>bG I hn hc h'
theorem cD{f:#v[y]}{R:List U->Prop}{h:U->U}:∀{l acc:List U},(∀u∈l,∀k,k (some (h u))->f u k)->R (acc++l.map h)->jT f l acc R
 | [],acc,_,r=>by rw[Fm,Bb]at r;exact r
 |u::l,acc,hf,r=>hf u Ah _ (cD (λx hx=>hf x (Af _ hx)) (by rw[Ce];exact r))
theorem sO{f:#v[y]}{R:List U->Prop}{h:U->Option U}:∀{l acc:List U},(∀u∈l,∀k,k (h u)->f u k)->R (acc++l.filterMap h)->jT f l acc R
 | [],acc,_,r=>by rw[Rr,Bb]at r;exact r
 |u::l,acc,hf,r=>by
  refine hf u Ah _ ?_;have hf':=λx(hx:x∈l)=>hf x (Af _ hx);cases e:h u with
  |none=>
   rw[Fy e]at r;exact sO hf' r
  |some x=>
   rw[Fx e]at r;exact sO hf' (by rw[Ce];exact r)
abbrev Tke:Type:=Int×List Int
def tkU(x:Tke):U:=.tp [.n x.1,.tp (x.2.map U.n)]
def DUs.mapInts{W B:Addr->Prop}{H:Hp}:∀{ns:List Int},DUs W B H #v[w] #v[M]
 | []=>rfl
 |_::_=>#[_,_,rfl,#[rfl,rfl],DUs.mapInts]
theorem wL{W B:Addr->Prop}{H:Hp}:∀{xs:List Tke}{zs:List V},DUs W B H (xs.map tkU) zs->∃ps:List (Tke×Addr),zs=ps.map (λx=>V.ref x.2)/\ps.map (·.1)=xs/\∀x∈ps,PKy H x/\DU W B H (tkU x.1) (.ref x.2)
 | [],_,h=>#[[],h,rfl,λ_ z=>nomatch z]
 |x::xs,_,⟨v,r,e,d,t⟩=>by
  obtain⟨ps,e1,e2,h⟩:=wL t;obtain⟨a,ys,rfl,nb,ha,y1,_,rfl,f1,y2,r2,rfl,⟨q,zs,rfl,nq,hq,dz⟩,e3⟩:=id d;obtain rfl:r2=[]:=e3;rw[f1.1]at ha;refine#[(x,a)::ps,by rw[e,e1];rfl,by rw[Ba,e2],λz hz=>?_];rcases List.mem_cons.mp hz with rfl|hz
  ·exact#[#[q,ha,by rw[dz.ints]at hq;exact hq],d]
  ·exact h z hz
theorem aPe{W B:Addr->Prop}{H:Hp}:∀{ps:List (Tke×Addr)},(∀x∈ps,DU W B H (tkU x.1) (.ref x.2))->DUs W B H ((ps.map (·.1)).map tkU) (ps.map λx=>V.ref x.2)
 | [],_=>rfl
 |x::ps,h=>#[_,_,rfl,h x Ah,aPe λy hy=>h y (Af _ hy)]
def aZk(F:TVa):TV:=λρ R=>F ρ λus=>∃xs:List Tke,us=[.ls (xs.map tkU)]/\xs.length<=60/\(∃ks:List Tke,ks.length<4/\∀x∈xs,x∈ks)/\∀ys:List Tke,ys.Pairwise (λx y=>wR x y=true)->(∀y,y∈ys↔y∈xs)->R (.ow #v[46])
def aVd(F:TVa):TV:=λρ R=>F ρ λus=>∃(ns:List Nat)(x:Nat),us=[.ls (ns.map λk:Nat=>U.n k)]/\(∀n∈ns,n=x)/\x∈[1,2,3]/\R (.ow ((zs1 x (decide (0<ns.length))).map λk:Nat=>U.n k))
def DUs.nats{W B:Addr->Prop}{H:Hp}:∀{ns:List Nat}{xs:List V},DUs W B H (ns.map λk:Nat=>U.n k) xs->xs=xZ ns
 | [],_,h=>h
 |_::_,_,⟨x,r,e,d,t⟩=>by rw[e,d.1,DUs.nats t];rfl
def DUs.ofNats{W B:Addr->Prop}{H:Hp}:∀{ns:List Nat},DUs W B H (ns.map λk:Nat=>U.n k) (xZ ns)
 | []=>rfl
 |_::_=>#[_,_,rfl,#[rfl,rfl],DUs.ofNats]
def aS2{F:TVa}{p p' pos pos':Pos}(hr:eY k X.A)(hc:X.calm=true)(h1:X.mg "sorted"=none)(h2:X.mg "set"=none)(ha:VB X [a] F)(g1:Gl X "sorted":=by rfl)(g2:Gl X "set":=by rfl)(hs:SE X a []:=by rfl)(hpl:BT X pos' []:=by rfl)
  (hs':starEach [.Call (.Name "set" p') [a] [] pos'] X.env=(false,eval (.Call (.Name "set" p') [a] [] pos') X.env)::starEach [] X.env:=by rfl) (hpl':BT X pos []:=by rfl):VE X (.Call (.Name "sorted" p) [.Call (.Name "set" p') [a] [] pos'] [] pos) (aZk F):=
 let⟨_,q,f⟩:=ha;⟨_,iH (aDn (by have:=hr.un;lia) hc) g1 h1 Pu (bZ (gO (aCh (by have:=hr.un;lia) hc) g2 h2 boot_set q ⋯ ⋯ hs hpl) dN hs') ⋯ ⋯ hs' hpl',λ{W B ρ σ H R Q} e h q=>f e h λus vs H1 ⟨xs,eu,xl,fk,h1⟩ w1 d=>by
  subst eu;have e1:=e.to w1;obtain⟨x,rfl,dd⟩:=DBs.one d;obtain⟨p,zs,rfl,_,hp,ds⟩:=dd.ls e1.eb;obtain⟨ps,rfl,rfl,hk⟩:=wL ds;rw[Ab]at xl;refine#[p,ps,rfl,SqL.of hp,λx hx=>(hk x hx).1,∅,(let⟨ks,kl,km⟩:=fk;#[ks,kl,λx hx=>km _ (List.mem_map.mpr #[x,hx,rfl])]),λl zs nl nd sub all zl=>?_];have w2:=e1.eb.new (o:=.ext (jV X.prog X.w l zs)) nl;have k2:∀x∈zs,PKy (upd H1 l (.ext (jV X.prog X.w l zs))) x/\DU W B (upd H1 l (.ext (jV X.prog X.w l zs))) (tkU x.1) (.ref x.2):=λx hx=>by
   obtain⟨⟨q,a1,a2⟩,a3⟩:=hk x (sub x hx);exact#[#[q,(aN (aR a1 nl)).trans a1,(aN (aR a2 nl)).trans a2],DU.mono (e1.eb.keep w2) _ a3]
  have e2:=e1.to w2;refine#[l,zs,rfl,aP,λx hx=>(k2 x hx).1,∅,λm ys nm pm pw=>?_];have w3:=e2.eb.new (o:=.lst (ys.map λx=>V.ref x.2)) nm;refine q (.ow ((ys.map (·.1)).map tkU)) _ _ (h1 _ ?_ λy=>?_) ((w1.trans w2).trans w3) (RO.back (s:=.ow _) (w1.trans w2) #[m,_,rfl,nm,aP,aPe λx hx=>?_])
  ·rw[Gz];exact pw
  ·constructor
   ·intro hy;obtain⟨x,hx,rfl⟩:=List.mem_map.mp hy;exact List.mem_map.mpr #[x,sub x (pm.mem_iff.mp hx),rfl]
   ·intro hy;obtain⟨x,hx,rfl⟩:=List.mem_map.mp hy;obtain⟨z,hz,e⟩:=all x hx;exact List.mem_map.mpr #[z,pm.mem_iff.mpr hz,e]
  ·exact DU.mono (λb o nb h=>#[λz=>z.elim nb (aR h nm),(e2.eb.keep w3 b o nb h).2]) _ (k2 x (pm.mem_iff.mp hx)).2⟩
def aPr{F:TVa}{p p' pos pos':Pos}(hc:X.calm=true)(h1:X.mg "sorted"=none)(h2:X.mg "set"=none)(ha:VB X [a] F)(g1:Gl X "sorted":=by rfl)(g2:Gl X "set":=by rfl)(hs:SE X a []:=by rfl)(hpl:BT X pos' []:=by rfl)
  (hs':starEach [.Call (.Name "set" p') [a] [] pos'] X.env=(false,eval (.Call (.Name "set" p') [a] [] pos') X.env)::starEach [] X.env:=by rfl) (hpl':BT X pos []:=by rfl):VE X (.Call (.Name "sorted" p) [.Call (.Name "set" p') [a] [] pos'] [] pos) (aVd F):=
 let⟨_,q,f⟩:=ha;⟨_,iH (aDb hc) g1 h1 Pu (bZ (gO (aKh hc) g2 h2 boot_set q ⋯ ⋯ hs hpl) dN hs') ⋯ ⋯ hs' hpl',λ{W B ρ σ H R Q} e h q=>f e h λus vs H1 ⟨ns,y,eu,hn,h3,h1⟩ w1 d=>by
  subst eu;have e1:=e.to w1;obtain⟨x,rfl,dd⟩:=DBs.one d;obtain⟨p,zs,rfl,_,hp,ds⟩:=dd.ls e1.eb;rw[ds.nats]at hp;refine#[p,ns,y,rfl,SqL.of hp,hn,h3,λl nl=>?_];have w2:=e1.eb.new (o:=.ext (aCl X.w l y (decide (0<ns.length)))) nl;have e2:=e1.to w2;refine#[l,y,_,rfl,aP,h3,λm nm=>?_];have w3:=e2.eb.new (o:=.lst (xZ (zs1 y (decide (0<ns.length))))) nm;exact q (.ow _) _ _ h1 ((w1.trans w2).trans w3) (RO.back (s:=.ow _) (w1.trans w2) #[m,_,rfl,nm,aP,DUs.ofNats])⟩
inductive aZn(C:Addr)(F:#v[33])(vs:List V)(H:Hp)(Q:VK)(z3_:XK):Prop
 |mk (x dx vs' H1 W B us R:_) (q0_:vs=.ref x::vs') (q1_:H1 x=none) (q2_:H x=some (.ins C dx [])) (q3_:bAk H1 H) (q4_:EB W B H1) (q5_:DUs W B H1 us vs') (q6_:F us R) (q7_:∀ns ws xs H',R ns ws->Fw W H1 H'->H' x=some (.ins C dx (ns.zip xs))->ns.length=xs.length->DUs W B H' ws xs->Q .non H'):aZn C F vs H Q z3_
def spI(C:Addr)(F:#v[33]):Sp:=λvs H Q z3_=>aZn C F vs H Q z3_
structure MkU(P:Program)(w:World)(K:Ad)(mg:Str->#v[12])(base:Heap)(k:Nat)(C:Addr)(x:Str)(ps:List Str)(F:#v[33]):Prop where
 ex:∃f fd,↥k f fd ps (spI C F)/\Mk K C f/\mg x=some (.ref C)/\Binds K fd ps []
def bAb(C:Addr)(F:#v[33])(a:TVa):TV:=λρ R=>a ρ λus=>F us λns ws=>R (.sh (.ob C ns ws))
def lB{x:Str}{F:#v[33]}{es:List Expr}{G:TVa}{p pos:Pos}(M:MkU X.prog X.w X.K X.mg X.base k C x ps F)(hr:eY (k+1) X.A)(ha:VA X (a::es) G)(hg:Gl X x:=by rfl)
  (hdb:ND x:=by decide) (he:SE X a es:=by rfl) (hpl:BT X pos es:=by rfl):VE X #v[51] (bAb C F G):=by
 obtain⟨f,fd,Fo,Mk_,hm,hb⟩:=M.ex;obtain⟨_,p,g⟩:=ha;refine#[_,aRe Mk_ Fo hr hg hm hb .nil (E:=E0) aB4 p hdb he hpl,λ{W B ρ σ H R Q} e h q=>g e h λus vs H1 h1 _ w d=>λx dx nx nd ne=>?_];have e1:=(e.to w).eb;refine#[x,dx,vs,H1,W,B,us,_,by rw[Bb],nx,aP,λb o hb=>?_,e1,d,h1,λns ws xs H' hR fw hx hl ds=>#[rfl,q (.sh (.ob C ns ws)) _ _ hR (w.trans fw) #[x,dx,xs,rfl,e1.nw nx,hx,hl,ds]]];rw[aN (aR hb nx),aN (aR hb nd)];exact hb
def sI{F:TV}{σ:St}{H:Hp}{Q:VK}{W B:Addr->Prop}{ρ:EV}{R:Sl->Prop}(e:#v[41])(h:F ρ R)(q:#v[31]):tV F σ H Q:=#[W,B,ρ,R,e,h,q]
def pB{F:TVc}{σ:St}{H:Hp}{Q:Bool->Hp->Prop}{W B:Addr->Prop}{ρ:EV}(e:#v[41])(h:F ρ R)(q:∀c H',R c->Fw W H H'->Q c H'):tVc F σ H Q:=#[W,B,ρ,R,e,h,q]
section
variable {W B:Addr->Prop}{H H':Hp}
def fM{σ:St}(d:DU W B H u v)(e:#v[41]):EE W B H (.sh u::ρ) (some v::σ):=by
 refine#[e.eb,by rw[Am,Am,e.len],λi u' h=>?_,λi s w h hs=>?_]
 ·cases i with
  |zero=>cases h;exact#[v,rfl,d]
  |succ i=>exact e.sh i u' h
 ·cases i with
  |zero=>cases h;cases hs
  |succ i=>exact e.hd i s w h hs
def aHp(e:EB W B H):EE W B H [] []:=#[e,rfl,nofun,nofun]
def nZ{σ:St}{v:Option V}(e:#v[41]):EE W B H (.no::ρ) (v::σ):=by
 refine#[e.eb,by rw[Am,Am,e.len],λi u' h=>?_,λi s w h hs=>?_]
 ·cases i with
  |zero=>cases h
  |succ i=>exact e.sh i u' h
 ·cases i with
  |zero=>cases h;cases hs
  |succ i=>exact e.hd i s w h hs
mutual
theorem DU.data(k:∀b o,¬B b->H b=some o->(∃xs,o=.tup xs)∨(∃xs,o=.lst xs)->H' b=some o):∀(n:Nat)(u:U){v:V},u.dt n->DU W B H u v->DU W B H' u v
 |_,.v _,_,_,h=>h
 |n+1,.tp l,_,t,⟨p,xs,e,nb,hp,ds⟩=>#[p,xs,e,nb,k _ _ nb hp (.inl #[_,rfl]),DUs.data k n l t ds]
 |n+1,.ls l,_,t,⟨p,xs,e,nb,hp,ds⟩=>#[p,xs,e,nb,k _ _ nb hp (.inr #[_,rfl]),DUs.data k n l t ds]
theorem DUs.data(k:∀b o,¬B b->H b=some o->(∃xs,o=.tup xs)∨(∃xs,o=.lst xs)->H' b=some o):∀(n:Nat)(l:List U){xs:List V},U.dts n l->DUs W B H l xs->DUs W B H' l xs
 |_,[],_,_,h=>h
 |n,u::l,_,⟨t,t'⟩,⟨x,r,e,h,h'⟩=>#[x,r,e,DU.data k n u t h,DUs.data k n l t' h']
end
def Fw.upd{x:Addr}{o:HO}(f:Fw W H1 H)(n:H1 x=none)(nw:¬W x):Fw W H1 (upd H x o):=⟨λb u w h=>(aN (aR h n)).trans (f.fr b u w h),λp hp=>by
 obtain⟨a,b,c,h⟩:=f.wo p hp;exact#[a,b,c,(aN (λz:p=x=>nw (by rw[<-z];exact hp))).trans h]⟩
def eU{x C dx:Addr}{o:HO}(h:H x=some #v[82]):∀b u,¬B b->H b=some u->(∃xs,u=.tup xs)∨(∃xs,u=.lst xs)->upd H x o b=some u:=λb u _ hb ht=>by
 refine(aN (λz:b=x=>?_)).trans hb;rw[z,h]at hb;rcases ht with ⟨xs,rfl⟩|⟨xs,rfl⟩<;>cases hb
end
section
variable {W W' B:Addr->Prop}{H:Hp}
mutual
def Nw:U->Prop
 |.v _=>True
 |.tp l=>Nws l
 |.ls l=>Nws l
 |.ob _ _ us=>Nws us
 |.dk _ us=>Nws us
 |_=>False
def Nws:List U->Prop
 | []=>True
 |u::l=>Nw u/\Nws l
end
mutual
theorem DU.nw:∀(u:U){v:V},Nw u->DU W B H u v->DU W' B H u v
 |.v _,_,_,h=>h
 |.tp l,_,n,⟨p,xs,e,nb,hp,t⟩=>#[p,xs,e,nb,hp,DUs.nw l n t]
 |.ls l,_,n,⟨p,xs,e,nb,hp,t⟩=>#[p,xs,e,nb,hp,DUs.nw l n t]
 |.ob _ _ us,_,n,⟨p,dx,xs,e,nb,hp,hl,t⟩=>#[p,dx,xs,e,nb,hp,hl,DUs.nw us n t]
 |.dk _ us,_,n,⟨p,xs,e,nb,hp,hl,t⟩=>#[p,xs,e,nb,hp,hl,DUs.nw us n t]
theorem DUs.nw:∀(l:List U){xs:List V},Nws l->DUs W B H l xs->DUs W' B H l xs
 | [],_,_,h=>h
 |u::l,_,⟨n,n'⟩,⟨x,r,e,h,t⟩=>#[x,r,e,DU.nw u n h,DUs.nw l n' t]
end
end
def Sl.nw:Sl->Prop
 |.sh u=>Nw u
 |.ow l=>Nws l
 |_=>False
open Classical in
theorem jB{f:#v[y]}{R:List U->Prop}(P:U->Prop):∀{l acc:List U},(∀u∈l,∀k:Option U->Prop,(∀x,P x->k (some x))->f u k)->(∀xs:List U,xs.length=l.length->(∀x∈xs,P x)->R (acc++xs))->jT f l acc R
 | [],acc,_,r=>by
  have:=r [] rfl nofun
  rw[Bb]at this;exact this
 |u::l,acc,hf,r=>hf u Ah _ λx hx=>jB P (λy hy=>hf y (Af _ hy)) λxs el hp=>by
  rw[Ce];exact r (x::xs) (by rw[Am,Am,el]) λy hy=>by
   rcases List.mem_cons.mp hy with rfl|hy
   ·exact hx
   ·exact hp y hy
def aVz(C:TVc)(b:TVS):TVS:=λE ρ=>∃I:Nat->EV->Prop,(∃m,I m ρ)/\∀m ρ,I m ρ->C ρ λc=>(c=true->b {E with nx:=λρ'=>∃m',m'<m/\I m' ρ',ct:=λρ'=>∃m',m'<m/\I m' ρ',bk:=E.nx} ρ)/\(c=false->E.nx ρ)
def aEu{c:Expr}{C:TVc}{b:TVS}(hp:PassesOwn #v[p] X.A X.env X.xe)(hc:VC X c C)(hb:VSs X body b):VS X (.While c body [] pos) (aVz C b):=
 let⟨_,p,f⟩:=hc;let⟨_,p',f'⟩:=hb;⟨_,aO6 hp p p',λ{W B H0 A ρ σ H E D} o h j=>by
  obtain⟨I,⟨m0,i0⟩,turn⟩:=h;refine#[λm σ H=>∃A ρ,EO W B H0 A ρ σ H/\I m ρ,#[m0,A,ρ,o,i0],?_];rintro m σ H ⟨A,ρ,o,hi⟩;refine f o.ee (turn m ρ hi) λc H1 h1 w=>?_;cases c with
  |true=>exact aEe #[λσ H=>∃m',m'<m/\∃A ρ,EO W B H0 A ρ σ H/\I m' ρ,λσ' H' z=>z,f' (o.to w) (h1.1 rfl) #[λo2 ⟨m',l,i⟩=>#[m',l,_,_,o2,i],λo2 h2=>j.nx o2 h2,λo2 ⟨m',l,i⟩=>#[m',l,_,_,o2,i],j.rt,j.mr]]
  |false=>exact rG (j.nx (o.to w) (h1.2 rfl))⟩
inductive aQq(K:Ad)(xs:List V)(H:Hp)(Q:VK):Prop
 |mk (p:Addr) (ns:List Int) (q0_:xs=[.ref p]) (q1_:SqL K H p #v[M]) (q2_:ns≠[]) (q3_:∀m:Int,m∈ns->(∀a∈ns,a<=m)->Q (.int m) H):aQq K xs H Q
def aT4(K:Ad):List V->Hp->VK->Prop:=λxs H Q=>aQq K xs H Q
def aB0(hc:X.calm=true):dO X (.builtin "max") (aT4 X.K):=by
 intro pins s σ H xs us Q I r h;obtain⟨p,ns,rfl,hq,hne,q⟩:=h;obtain⟨u,rfl,ru⟩:=vals1 r;cases ru;obtain⟨its,rv,pl,hz⟩:=I.list hq;have hi:IntsAre its ns:=intsAre_of rv;obtain⟨ys,e⟩:=hi.allInts.items;have hns:ns=ys.toList.map (·.1):=by
  rw[<-hi.numsOf, <-Rh, <-e]
 have hsz:0<ys.size:=by
  have h3:0<ns.length:=List.length_pos_iff.mpr hne;rw[hns,Ab,As]at h3;exact h3
 have hl:=pl.isList;rw[e]at hl;refine max_intList #v[58] hl hsz λv h' tk hv hk=>?_;obtain⟨t,rfl⟩:=Pt hv;obtain⟨h1,h2⟩:=argBest_gt (numAt ys) (ys.size-1);refine#[.int _,H,I.kept (t':=tk) hk,#[t,rfl],q _ ?_ λa ha=>?_]
 ·rw[hns,Ri];exact getD_mem (by rw[Ab,As];lia)
 ·rw[hns]at ha;obtain⟨j,hj,rfl⟩:=mem_getD ha;rw[Ab,As]at hj;rw[<-Ri];exact h2 j ∅
inductive aOf(us:List U)(R:(Sl->Prop)):Prop
 |mk (ns:List Int) (q0_:us=[.ls #v[w]]) (q1_:ns≠[]) (q2_:∀m:Int,m∈ns->(∀a∈ns,a<=m)->R (.sh (.n m))):aOf us R
def aZe:List U->(Sl->Prop)->Prop:=λus R=>aOf us R
def aJn{K:Ad}:CB (aT4 K) aZe:=λ{W B H us vs R Q} e d ⟨ns,eu,hn,h⟩ q=>by
 subst eu;obtain⟨x,rfl,dd⟩:=DBs.one d;obtain⟨p,xs,rfl,_,hp,ds⟩:=dd.ls e;rw[ds.ints]at hp;exact#[p,ns,rfl,SqL.of hp,hn,λm h1 h2=>q _ _ _ (h m h1 h2) e.refl #[rfl,rfl]]
section
variable {W B:Addr->Prop}{H H':Hp}{ρ ρ':EV}{σ:St}
end
def dY(P:Program)(w:World)(a:Addr)(xs:#v[13])(h:Heap):Prop:=(a==sysModules)=false/\∃o es ep,h.get? a=some o/\o.ExactDict/\o.data=.dict es ep/\es.toList=xs.map (entryOfKey #v[27])/\(xs.map (·.1)).Nodup
def dY.stay{a:Addr}{xs:#v[13]}(h1 h2:Heap)(p:dY P w a xs h1)(k:∀o,h1.get? a=some o->h2.get? a=some o):dY P w a xs h2:=let⟨y,o,es,ep,e,c⟩:=p;#[y,o,es,ep,k _ e,c]
inductive PdR(W B:Addr->Prop)(H:Hp):List (Tke×U)->#v[13]->Prop
 |nil:PdR W B H [] []
 |cons {k:Tke} {u:U} {l:List (Tke×U)} {r:#v[13]} {c:Addr} {x:Value} {v:V}:DU W B H (tkU k) (.ref c)->RelV v x->DU W B H u v->PdR W B H l r->PdR W B H ((k,u)::l) ((k,c,x)::r)
section
variable {l:List (Tke×U)}
variable {W W' B B':Addr->Prop}{H H':Hp}
def PdR.mono{xs:#v[13]}(k:#v[43])(h:PdR W B H l xs):PdR W B' H' l xs:=by
 induction h with
 |nil=>exact .nil
 |cons d rv dv t ih=>exact .cons (DU.mono k _ d) rv (DU.mono k _ dv) ih
def PdR.wm{xs:#v[13]}(k:∀p,W p->W' p)(h:PdR W B H l xs):PdR W' B H l xs:=by
 induction h with
 |nil=>exact .nil
 |cons d rv dv t ih=>exact .cons (DU.wm k _ d) rv (DU.wm k _ dv) ih
def PdR.keys{xs:#v[13]}(h:PdR W B H l xs):xs.map (·.1)=l.map (·.1)/\∀x∈xs,DU W B H (tkU x.1) (.ref x.2.1):=by
 induction h with
 |nil=>exact#[rfl,nofun]
 |cons d rv dv t ih=>exact#[congrArg (_::·) ih.1,λx hx=>(List.mem_cons.mp hx).elim (λz=>z▸d) (ih.2 x)]
def PdR.len{xs:#v[13]}(h:PdR W B H l xs):xs.length=l.length:=by
 have:=congrArg Eh h.keys.1;simpa using this
def aNm{k:Tke}(d:DU W B H (tkU k) y):∃b,y=.ref b/\PKy H (k,b):=by
 obtain⟨a,ys,rfl,nb,ha,y1,_,rfl,f1,y2,r2,rfl,⟨q,zs,rfl,nq,hq,dz⟩,e3⟩:=d;obtain rfl:r2=[]:=e3;rw[f1.1]at ha;exact#[a,rfl,q,ha,by rw[dz.ints]at hq;exact hq]
def aXf{k:Tke}(d:DU W B H (tkU k) (.ref b)):PKy H (k,b):=by
 obtain⟨_,e,h⟩:=aNm d;cases e;exact h
end
def pdO(P:Program)(w:World)(kvs:List (Tke×U)):Own:=#[λW B S H p=>(∀b,S b↔b=p)/\∃xs,H p=some (.ext (dY P w p xs))/\PdR W B H kvs xs,λk e ⟨s,xs,h,r⟩=>#[s,xs,(e _ ((s _).mpr rfl)).trans h,r.mono k],λk ⟨s,xs,h,r⟩=>#[s,xs,h,r.wm k],λ⟨s,_,h,_⟩ b hb=>by rw[(s b).mp hb];exact#[_,h,trivial]]
def aLt(P:Program)(w:World)(s:Sl)(kvs:List (Tke×U)):Prop:=s=.bo (pdO P w kvs)∨s=.oo (pdO P w kvs)∨s=.sh (.op (pdO P w kvs).fz)
def RO.pd{W B:Addr->Prop}{H H':Hp}{kvs:List (Tke×U)}(h:aLt P w s kvs)(r:RO W B H H' s v):∃p xs,v=.ref p/\H' p=some (.ext (dY P w p xs))/\PdR W B H' kvs xs:=by
 rcases h with rfl|rfl|rfl
 ·obtain⟨p,S,e,_,_,xs,h⟩:=r;exact#[p,xs,e,h]
 ·obtain⟨p,S,e,_,h⟩:=r;obtain⟨_,xs,h⟩:=Own.less _ h;exact#[p,xs,e,h]
 ·obtain⟨p,S,e,_,_,xs,h⟩:=r;exact#[p,xs,e,h]
def aTc{H:Hp}{h:Heap}{a:Addr}{xs:#v[13]}(ok:HOk P w H h)(e:H a=some (.ext (dY P w a xs)))(k:∀x∈xs,PKy H (x.1,x.2.1)):(a==sysModules)=false/\h.DictOfH #v[27] a xs:=by
 obtain⟨⟨y,o,es,ep,h1,h2,h3,h4,h5⟩,_,_⟩:=(show bO P w H h a (.ext (dY P w a xs))from ok a _ e);exact#[y,o,es,ep,h1,h2,h3,h4,λx hx=>yR (x:=(x.1,x.2.1)) ok (k x hx),h5]
variable {o i value:Expr}{pos pos':Pos}{td ty tv:TE}
variable {P:Program}{w:World}
section
variable {W B:Addr->Prop}{H0 H H1:Hp}{A:#v[96]}{ρ:EV}{σ:St}
end
def mC(l:List U)(lo hi:Option Int):List U:=(l.drop (HT.sIx l.length 0 lo)).take (HT.sIx l.length l.length hi-HT.sIx l.length 0 lo)
def DUs.cut{W B:Addr->Prop}{H:Hp}{l:List U}{xs:List V}{lo hi:Option Int}(d:DUs W B H l xs):DUs W B H (mC l lo hi) (aAh xs lo hi):=by
 unfold mC aAh;rw[d.length];exact(d.drop _).take _
abbrev TVo:=EV->(Option Int->Prop)->Prop
def VTo(t:TO)(F:TVo):Prop:=∀{W B:Addr->Prop}{ρ:EV}{σ:St}{H:Hp}{R:Option Int->Prop}{Q:Option Int->Hp->Prop},EE W B H ρ σ->F ρ R->(∀o H',R o->Fw W H H'->Q o H')->t σ H Q
def VO(X:Cx)(e:Option Expr)(F:TVo):Prop:=∃t,PO X e t/\VTo t F
def bBw:TVo:=λ_ R=>R none
def bA6(F:TV):TVo:=λρ R=>F ρ λs=>match s.rd with
 |.v (.int i)=>R (some i)
 |_=>False
def vSl(F:TV)(L M:TVo):TV:=λρ R=>F ρ λs=>L ρ λlo=>M ρ λhi=>match s.rd with
 |.ls l=>R (.ow (mC l lo hi))
 |.tp l=>¬(HT.sIx l.length 0 lo=0/\HT.sIx l.length l.length hi=l.length)/\R (.sh (.tp (mC l lo hi)))
 |_=>False
def aD4:VO X none bBw:=#[_,aSo,λe h q=>q _ _ h e.eb.refl]
def uV{e:Expr}{F:TV}(h:VE X e F):VO X (some e) (bA6 F):=by
 obtain⟨_,p,f⟩:=h;refine#[_,aR9 p,λe h q=>f e h λs v H1 h1 w r=>?_];have d:=r.db e.eb;revert h1 d;generalize s.rd=u;intro h1 d;split at h1
 ·exact#[_,d.int,q _ _ h1 w]
 ·exact h1.elim
def aOa{lo hi:Option Expr}{p2 pos:Pos}{F:TV}{L M:TVo}(ha:VE X a F)(hl:VO X lo L)(hh:VO X hi M):VE X (.Subscript a (.Slice lo hi none p2) pos) (vSl F L M):=by
 obtain⟨_,p,f⟩:=ha;obtain⟨_,p1,f1⟩:=hl;obtain⟨_,p2,f2⟩:=hh;refine#[_,aF1 (aJz.or aNw) p p1 p2,λ{W B ρ σ H R Q} e h q=>f e h λs v H1 h1 w1 r1=>f1 (e.to w1) h1 λlo H2 h2 w2=>f2 ((e.to w1).to w2) h2 λhi H3 h3 w3=>?_];have e3:=((e.to w1).to w2).to w3;have ww:=(w1.trans w2).trans w3;have d:=((r1.db e.eb).to (e.to w1).eb w2).to ((e.to w1).to w2).eb w3;revert h3 d;generalize s.rd=u;intro h3 d;split at h3
 ·obtain⟨a,xs,rfl,_,ha,ds⟩:=d.ls e3.eb;refine .inl #[a,xs,rfl,SqL.of ha,λp n=>?_];have f4:=e3.eb.new (o:=.lst (aAh xs lo hi)) n;exact q _ _ _ h3 (ww.trans f4) (RO.back (s:=.ow _) ww #[p,_,rfl,n,aP,DUs.mono (λb o nb h=>#[λz=>z.elim nb (aR h n),(e3.eb.keep f4 b o nb h).2]) _ ds.cut])
 ·obtain⟨a,xs,rfl,_,ha,ds⟩:=d.tp;refine .inr #[a,xs,rfl,SqT.of ha,by rw[<-ds.length];exact h3.1,λp n=>?_];have f4:=e3.eb.new (o:=.tup (aAh xs lo hi)) n;exact q _ _ _ h3.2 (ww.trans f4) #[p,_,rfl,e3.eb.nw n,aP,DUs.mono (e3.eb.keep f4) _ ds.cut]
 ·exact h3.elim
theorem aGl:∀(n:Nat)(L:#v[13]),L.length=n->(L.map (·.1)).Nodup->pD L=L
 |0,L,h,_=>by rw[List.length_eq_zero_iff.mp h];rfl
 |n+1,L,h,nd=>by
  obtain⟨M,x,rfl⟩:∃M x,L=M++[x]:=#[L.dropLast,L.getLast (by intro z;rw[z]at h;cases h),(Iw _).symm];rw[Al,Dg]at h;rw[Ca,Jv]at nd;rw[qT,aGl n M ∅ nd.1];have e:atKey M x.1=none:=by
   unfold atKey;rw[List.find?_eq_none.mpr λy hy z=>nd.2.2 y.1 (List.mem_map.mpr #[y,hy,rfl]) x.1 (by simp) (of_decide_eq_true z)];rfl
  unfold storedH;rw[e];rfl
section
variable {W W' B B':Addr->Prop}{H H':Hp}{f:Tke->List U}
variable {l:List Tke}{xs:#v[13]}
end
def aS6{P:Program}{w:World}{x:Tke}{a:Addr}(e:#v[27].is h x a)(k:∀b o,h.get? b=some o->h'.get? b=some o):#v[27].is h' x a:=by
 obtain⟨o,v,b,n,h1,h2,h3,h4,o',its,m,g1,g⟩:=e;exact#[o,v,b,n,k _ _ h1,h2,h3,h4,o',its,m,k _ _ g1,g]
def boot_dict:bootBuiltins "dict"=some (.type "dict"):=by decide+kernel
mutual
def U.tt:U->Prop
 |.v _=>True
 |.tp l=>U.tts l
 |_=>False
def U.tts:List U->Prop
 | []=>True
 |u::l=>U.tt u/\U.tts l
end
section
variable {W W' B B':Addr->Prop}{H:Hp}
mutual
theorem DU.tt(e:EB W' B' H):∀(u:U){v:V},u.tt->DU W B H u v->DU W' B' H u v
 |.v _,_,_,h=>h
 |.tp l,_,t,⟨p,xs,e1,_,hp,ds⟩=>⟨p,xs,e1,λz=>by
  obtain⟨o,h,m⟩:=e.bl p z;rw[hp]at h;cases h;exact m,hp,DUs.tt e l t ds⟩
theorem DUs.tt(e:EB W' B' H):∀(l:List U){xs:List V},U.tts l->DUs W B H l xs->DUs W' B' H l xs
 | [],_,_,h=>h
 |u::l,_,⟨t,t'⟩,⟨x,r,e1,h,h'⟩=>#[x,r,e1,DU.tt e u t h,DUs.tt e l t' h']
end
end
def Sl.tt:Sl->Prop
 |.sh u=>u.tt
 |.ow l=>U.tts l
 |_=>False
def EE.more{W B:Addr->Prop}{H H1:Hp}{σ:St}{x:HO}(e:#v[41])(f:Fw W H H1)(n:H p=none)(h1:H1 p=some x)(m:Mt x):EE W (λb=>B b∨b=p) H1 ρ σ:=by
 have k:∀b o,¬B b->H b=some o->¬(B b∨b=p)/\H1 b=some o:=λb o nb h=>#[λz=>z.elim nb (aR h n),(e.eb.keep f b o nb h).2];have e1:=(e.to f).eb;refine#[#[λq hq=>hq.elim (e1.bl q) λz=>#[x,by rw[z];exact h1,m],λq hq=> .inl (e1.wb q hq),e1.wo],e.len,λi u h=>?_,λi s w h hs=>?_]
 ·obtain⟨v,h1,h2⟩:=e.sh i u h;exact#[v,h1,DU.mono k u h2]
 ·obtain⟨p,S,h1,h2,h3⟩:=e.hd i s w h hs;exact#[p,S,h1,h2,w.mono k (λb hb=>let⟨y,hx,_⟩:=w.th h3 b hb;(f.fr b y (h2 b hb) hx).trans hx.symm) h3]
def aYg(F:TVa):TV:=λρ R=>F ρ λus=>∃xs:List Tke,us=[.ls (xs.map tkU)]/\xs.length<4/\∀n:Nat,(xs.Nodup->n=xs.length)->R (.sh (.n n))
def aK1:dO X (.builtin "len") (λxs H Q=>∃p ps,xs=[V.ref p]/\H p=some (.ext (jV X.prog X.w p ps))/\ps.length<1000/\Q (.int ps.length) H):=by
 intro pins s σ H xs us Q I r h;obtain⟨p,ps,rfl,hp,hl,q⟩:=h;obtain⟨u,rfl,ru⟩:=vals1 r;cases ru;obtain⟨⟨o,es,ep,t,h1,h2,h3,h4,h5,h6,_⟩,_,_⟩:=(show bO X.prog X.w H s.heap p (.ext (jV X.prog X.w p ps))from I.hok p _ hp);have el:es.size=ps.length:=by rw[<-As,h4,Ab]
 have hf:t.fits es.size=true:=by
  unfold Nj Nk;have h2:=h5.room;rw[h5.dum];simp[h6]
  lia
 exact call_len_set h1 h2 h3 hf ∅ #[.int es.size,H,I.tok _,#[_,rfl],by rw[el];exact q]
def aRv{F:TVa}{p p' pos pos':Pos}(hr:eY k X.A)(hc:X.calm=true)(h1:X.mg "len"=none)(h2:X.mg "set"=none)(ha:VB X [a] F)(g1:Gl X "len":=by rfl)(g2:Gl X "set":=by rfl)(hs:SE X a []:=by rfl)(hpl:BT X pos' []:=by rfl)
  (hs':starEach [.Call (.Name "set" p') [a] [] pos'] X.env=(false,eval (.Call (.Name "set" p') [a] [] pos') X.env)::starEach [] X.env:=by rfl) (hpl':BT X pos []:=by rfl):VE X (.Call (.Name "len" p) [.Call (.Name "set" p') [a] [] pos'] [] pos) (aYg F):=
 let⟨_,q,f⟩:=ha;⟨_,iH aK1 g1 h1 Br (bZ (gO (aCh (by have:=hr.un;lia) hc) g2 h2 boot_set q ⋯ ⋯ hs hpl) dN hs') ⋯ ⋯ hs' hpl',λ{W B ρ σ H R Q} e h q=>f e h λus vs H1 ⟨xs,eu,xl,h1⟩ w1 d=>by
  subst eu;have e1:=e.to w1;obtain⟨x,rfl,dd⟩:=DBs.one d;obtain⟨p,zs,rfl,_,hp,ds⟩:=dd.ls e1.eb;obtain⟨ps,rfl,rfl,hk⟩:=wL ds;rw[Ab]at xl;refine#[p,ps,rfl,SqL.of hp,λx hx=>(hk x hx).1,∅,#[ps.map (·.1),by rw[Ab];lia,λx hx=>List.mem_map.mpr #[x,hx,rfl]],λl zs nl nd sub all zl=>?_];refine#[l,zs,rfl,aP,∅,q _ _ _ (h1 zs.length λnx=>?_) (w1.trans (e1.eb.new nl)) #[rfl,rfl]];have pm:(zs.map (·.1)).Perm (ps.map (·.1)):=(List.perm_ext_iff_of_nodup nd nx).mpr λy=>⟨λhy=>by
   obtain⟨x,hx,rfl⟩:=List.mem_map.mp hy;exact List.mem_map.mpr #[x,sub x hx,rfl],λhy=>by
   obtain⟨x,hx,rfl⟩:=List.mem_map.mp hy;obtain⟨z,hz,e⟩:=all x hx;exact List.mem_map.mpr #[z,hz,e]⟩
  have:=pm.length_eq;rw[Ab,Ab]at this;rw[this,Ab]⟩
section
open PySem.W
variable {prog:Program}{w:World}{A:Around}{E:#v[7]}{s:Shared}
end
section
open PySem.W
variable {prog:Program}{w:World}{A:Around}{E:#v[7]}{s:Shared}{α:Type} [DecidableEq α] [Inhabited α]{knd:HeapKind prog w α}{ok:α->Prop}{lt:α->α->Bool}
end
def aQg:dO X (.builtin "isinstance") (λxs H Q=>∃p ps,xs=[V.ref p,V.ty "dict"]/\H p=some (.ext (dY X.prog X.w p ps))/\Q (.bl true) H):=by
 intro pins s σ H xs us Q I r h;obtain⟨p,ps,rfl,hp,q⟩:=h;obtain⟨u,u',rfl,ru,ru'⟩:=vals2 r;cases ru;obtain rfl:u'=Ge "dict":=ru';obtain⟨⟨lo,o,es,ep,h1,h2,_⟩,_,_⟩:=(show bO X.prog X.w H s.heap p (.ext (dY X.prog X.w p ps))from I.hok p _ hp);exact Dt Ls I.kIn #[o,h1,h2.1] (b:=true) rfl (λz=>nomatch z) λtk=>#[.bl true,H,I.tok _,rfl,q]
def bA2(P:Program)(w:World)(F:TV):TV:=λρ R=>F ρ λs=>(∃kvs,aLt P w s kvs)/\R #v[x]
def aVy{F:TV}{p p' pos:Pos}(hP:X.prog=P)(hw:X.w=w)(hm:X.mg "isinstance"=none)(hm2:X.mg "dict"=none)(ha:VE X a F)(hg:Gl X "isinstance":=by rfl)(hg2:Gl X "dict":=by rfl)
  (hs:starEach [a,.Name "dict" p'] X.env=(false,eval a X.env)::starEach [.Name "dict" p'] X.env:=by rfl) (hs2:starEach [.Name "dict" p'] X.env=(false,eval (.Name "dict" p') X.env)::starEach [] X.env:=by rfl) (hpl:BT X pos [.Name "dict" p']:=by rfl):
  VE X (.Call (.Name "isinstance" p) [a,.Name "dict" p'] [] pos) (bA2 P w F):=by
 subst hP hw;obtain⟨_,q,f⟩:=ha;refine#[_,iH aQg hg hm Xe (bZ q (bZ (aJ5 (v:=.ty "dict") hg2 hm2 boot_dict rfl ⋯ ⋯) dN hs2) hs) ⋯ ⋯ hs hpl,λe h q=>f e h λs v H1 h1 w r=>?_];obtain⟨⟨kvs,hs⟩,h1⟩:=h1;obtain⟨a,xs,rfl,g1,g2⟩:=r.pd hs;exact#[a,xs,rfl,g1,q _ _ _ h1 w #[rfl,rfl]]
section
open PySem.Builtin.Dict
variable {prog:Program}{w:World}{A:Around}{E:#v[7]}{s:Shared}{K:Type} [DecidableEq K]{knd:#v[59]}
end
open PyProof.Rows in
open PyProof.Rows in
section
variable {prog:Program}{w:World}{A:Around}{E:#v[7]}{s:Shared}
end
def PdR.vals{W B:Addr->Prop}{H:Hp}{xs:#v[13]}(h:PdR W B H l xs):∃vs,Vals vs (xs.map (·.2.2))/\DUs W B H (l.map (·.2)) vs:=by
 induction h with
 |nil=>exact#[[],.nil,rfl]
 |cons d rv dv t ih=>exact let⟨vs,h1,h2⟩:=ih;#[_::vs,.cons rv h1,_,vs,rfl,dv,h2]
variable {prog:Program}
def aPs(g:TG):Prop:=∀x σ H(Q Q':St->Hp->Prop),(∀σ H,Q σ H->Q' σ H)->g x σ H Q->g x σ H Q'
def aJj{i:Nat}:aPs (pL i):=λ_ _ _ _ _ m h=>m _ _ h
section
variable {X:Cx}
def aXx{elt iter tg:Expr}{own:List Str}{cap:#v[14]}{pos:Pos}{Fi:TVa}{G:TVg}{F:TV}(gm:aPs g)(sc0:Scope)(N0:List Str)(hsc:#v[64])(hN:X.N=N0)(hcell:HC X)
  (ok:aCr scope sc0 cap N0) (hc:X.calm=true) (hi:VIc X tg iter Fi) (hg:#v[35]) (hG:VTh own.length g G) (he:∀cs,dI X scope cs->∀C s2 H2 fp,VE #v[f] elt F)
  (hs:FS X iter:=by intro _;rfl):VE X #v[10] (aAg own.length cap Fi G F):=
 let⟨_,p,f⟩:=hi;#[_,let⟨_,S⟩:=aNq hsc hN hcell ok;aQx S hc p gm hg (λcs cf C s2 H2 fp=>(he cs cf C s2 H2 fp).can) hs,vY f hG]
def aXq{i:Nat}{x:Str}{elt iter tg:Expr}{own:List Str}{cap:#v[14]}{pos spos py:Pos}{Fi:TVa}{G:TVg}{F:TV}(gm:aPs g)(hnd:X.N.Nodup)(sc0:Scope)(N0:List Str)(hsc:#v[64])(hN:X.N=N0)(hcell:HC X)
  (ok:aCr scope sc0 cap N0) (hc:X.calm=true) (hi:VIc X tg iter Fi) (hg:#v[35]) (hG:VTh own.length g G) (he:∀cs,dI X scope cs->∀C s2 H2 fp,VE #v[f] elt F)
  (hi':X.N[i]? =some x:=by rfl) (hx:#v[C]:=by exact Cv rfl) (hsw:#v[k]:=by rfl)
  (hs:FS X iter:=by intro _;rfl) (hf:FL X x:=by trivial):VS X #v[22] (aPk i (aAg own.length cap Fi G F)):=
 let⟨_,p,f⟩:=hi;#[_,let⟨_,S⟩:=aNq hsc hN hcell ok;aEh hnd hi' hx S hc p gm hg (λcs cf C s2 H2 fp=>(he cs cf C s2 H2 fp).can) hsw hs hf,λo h j=>vY f hG o.ee h λs v H1 h1 w r=>aAe o w r h1 j.nx]
section
variable {elt iter tg ci:Expr}{Nc:List Str}{scope isc:Scope}{cs:#v[60]}{C:Addr}{s2:Shared}{H2:Hp}{fp:List Addr}{own:List Str}{icap:#v[14]}{pos:Pos}{Fi:TVa}{g:TG}{G:TVg}{Ct:TVc}{F:TV}
def aOw(fsc:Scope)(cf:dI X scope cs)(hfs:X.env.scope=fsc)(hk:fsc.kind=.function)(ok:aH3 isc scope fsc icap Nc)(hc:X.calm=true)(hi:VIc #v[n] tg iter Fi)
  (hg:∀cl C' s3 H3 fp',PG #v[45] tg g) (hG:VTh own.length g G) (he:∀cl C' s3 H3 fp',VE #v[45] elt F)
  (hs:∀x,foldedSetIterable iter #v[n].env x=pure x:=by intro _;rfl):VE #v[n] (.ListComp elt [#[tg,iter,[],0]] isc pos) (aAg own.length icap Fi G F):=
 let⟨_,p,f⟩:=hi;#[_,aX2 fsc cf hfs hk ok hc p hg (λcl C' s3 H3 fp'=>(he cl C' s3 H3 fp').can) hs,vY f hG]
end
def aU6(F:#v[q])(a:TV)(b:TVa):TV:=λρ R=>a ρ λs=>match s with
 |.ow [.v (.int _),.v (.int _),.v (.int _)]=>b ρ λus=>F (.wl::us) λs=>s.nw/\R s
 |_=>False
def aPn{x:Str}{F:#v[q]}{es:List Expr}{Fa:TV}{G:TVa}{p pos:Pos}(C:#v[100])(hr:eY k X.A)(hg:Gl X x)
  (ha:VE X a Fa) (hb:VA X es G) (hdb:ND x:=by decide) (he:SE X a es:=by rfl) (hpl:BT X pos es:=by rfl):
  VE X #v[51] (aU6 F Fa G):=
 let⟨_,p,f⟩:=ha;let⟨_,p',f'⟩:=hb;⟨_,aWi C hr hg aB4 (bZ p p' he) hdb he hpl,λ{W B ρ σ H R Q} e h q=>f e h λs v H1 h1 f1 r1=>by
  match s,h1,r1 with
  |.ow [.v (.int x),.v (.int y),.v (.int z)],h1,⟨p,xs,e1,n1,g2,dd⟩=>
   obtain⟨x1,_,rfl,d1,x2,_,rfl,d2,x3,r3,rfl,d3,d4⟩:=dd;obtain rfl:r3=[]:=d4;rw[d1.1,d2.1,d3.1]at g2;have nw:¬W p:=λz=>e.eb.dm p (e.eb.wb p z) n1;refine f' (e.more f1 n1 g2 trivial) h1 λus vs H2 h2 _ f2 d=>?_;have g3:=f2.fr p _ nw g2;have e2:=((e.more f1 n1 g2 trivial).to f2).eb;refine#[λb=>W b∨b=p,λb=>B b∨b=p,.wl::us,_,#[e2.bl,λq hq=>hq.imp (e.eb.wb q) id,λq hq=>hq.elim (e2.wo q) λz=>by rw[z];exact#[_,_,_,g3]],(by rw[Bb];exact#[v,vs,rfl,#[p,e1,.inr rfl],DUs.wm (λ_=> .inl) us d]),h2,λs v H3 h3 f3 r3=>?_];have f4:Fw W H H3:=#[λb o w h=>f3.fr b o (λz=>z.elim w λy=>by rw[y,n1]at h;cases h) (#v[50].fr b o w h),λq hq=>f3.wo q (.inl hq)];have mo:∀b o,¬(B b∨b=p)->H3 b=some o->¬B b/\H3 b=some o:=λb o n h=>#[λz=>n (.inl z),h];refine q _ _ _ h3.2 f4 ?_;match s,h3.1,r3 with
   |.sh u,n,r=>exact DU.nw u n (DU.mono mo u r)
   |.ow l,n,⟨c,ys,e3,m1,m2,m3⟩=>exact#[c,ys,e3,#v[50].none_ m1,m2,DUs.nw l n (DUs.mono (λb o n h=>#[λz=>n (z.imp .inl id),h]) l m3)]⟩
end
def aX7:U->U->(Sl->Prop)->Prop
 |.ls l,.v (.int k),R=>0<=k/\k<=1000/\l.length<=10/\R (.ow (Az k.toNat l).flatten)
 |_,_,_=>False
def DUs.rep{W B:Addr->Prop}{H:Hp}{xs:List V}(d:DUs W B H l xs):∀k,DUs W B H (Az k l).flatten (Az k xs).flatten
 |0=>rfl
 |k+1=>by rw[Fe,Fe,Dd,Dd];exact d.app (d.rep k)
def aMc:O2 aZd aX7:=λ{W B H u v x y R Q} e d1 d2 h q=>by
 unfold aX7 at h;split at h
 ·rename_i l k;obtain⟨h0,hk,hl,h⟩:=h;obtain⟨p,xs,rfl,hp,ds⟩:∃p xs,x=.ref p/\H p=some (.lst xs)/\DUs W B H l xs:=d1.elim (λ⟨p,xs,a,_,b,c⟩=>#[p,xs,a,b,c]) λ⟨l',p,xs,e1,a,_,b,c⟩=>by cases e1;exact#[p,xs,a,b,c]
  obtain rfl:y=.int k:=d2.elim (λd=>d.1) λ⟨_,_,_,e1,_⟩=>nomatch e1
  have dl:=ds.length;refine#[p,k,xs,rfl,rfl,hp,∅,∅,Ci (Nat.mul_le_mul (show xs.length<=10 by lia) (show k.toNat<=1000 by lia)) ⋯,λr nr=>?_];have f:=e.new (o:=.lst (Az k.toNat xs).flatten) nr;exact q (.ow (Az k.toNat l).flatten) _ _ h f #[r,_,rfl,nr,aP,DUs.mono (λb o nb h=>#[λz=>z.elim nb (aR h nr),(e.keep f b o nb h).2]) _ (ds.rep _)]
 ·exact h.elim
def Sl.nwN:Sl->Prop
 |.sh u=>Nw u∨∃o:Opq,u=.op o/\∀{W W' B:Addr->Prop}{H:Hp}{v:V},o.φ W B H v->o.φ W' B H v
 |.ow l=>Nws l
 |.no=>True
 |_=>False
def aYw(i:Nat)(G:TVS):TVS:=λE ρ=>match (ρ[i]? :Option Sl)with
 |some (.ow [.v (.int _),.v (.int _),.v (.int _)])=>G {nx:=λρ'=>(∀j s,j≠i->ρ'[j]? =some s->s.nwN)/\E.nx (ρ'.set i .no),rt:=λs=>s.nw/\E.rt s} (ρ.set i (.sh .wl))
 |_=>False
open Classical in
def aKf{X:Cx}{st:List Stmt}{G:TVS}(i:Nat)(h:VSs X st G):VSs X st (aYw i G):=let⟨_,p,f⟩:=h;⟨_,p,λ{W B H0 A ρ σ H E D} o h j=>by
 unfold aYw at h;split at h
 ·rename_i a b c hi;obtain⟨q,xs,h1,h2,h3,h4⟩:=o.ow i _ hi;have ex:xs=[.int a,.int b,.int c]:=DUs.ints (ns:=[a,b,c]) h4;subst ex;have hq:=(h2 q).mpr rfl;have nq:H0 q=none:=o.an i q hq;have nB:¬B q:=o.now nq;have bx:∀b,Bx (λb=>B b∨b=q) (λj q=>j≠i/\A j q) b↔Bx B A b:=λb=>by
   constructor
   ·rintro((h|rfl)|⟨j,h⟩)
    ·exact .inl h
    ·exact .inr #[i,hq]
    ·exact .inr #[j,h.2]
   ·rintro(hb|⟨j,hb⟩)
    ·exact .inl (.inl hb)
    ·by_cases e:j=i
     ·rw[e]at hb;exact .inl (.inr ((h2 b).mp hb))
     ·exact .inr #[j,e,hb]
  have k:∀b x,¬Bx B A b->H b=some x->¬Bx (λb=>B b∨b=q) (λj q=>j≠i/\A j q) b/\H b=some x:=λb x n h=>#[λz=>n ((bx b).mp z),h];have own:∀b,B b->¬ ∃j,j≠i/\A j b:=λb hb ⟨j,_,h⟩=>o.now (o.an j b h) hb;have ownq:¬ ∃j,j≠i/\A j q:=λ⟨j,n,h⟩=>n (o.inj j i q h hq);let H2:Hp:=λb=>if∃j,j≠i/\A j b then none else H b
  have hH2:∀b x,H2 b=some x->H b=some x:=λb x h=>by
   have h:(if∃j,j≠i/\A j b then none else H b)=some x:=h;split at h
   ·cases h
   ·exact h
  have hH:∀b,(¬ ∃j,j≠i/\A j b)->H2 b=H b:=λb n=>if_neg n;have e0:=o.ee.eb;have Wl:∀p,(W p∨p=q)->Wll H p:=λp hp=>hp.elim (o.fw.wo p) λe=>#[a,b,c,by rw[e];exact h3];have wq:∀p,(W p∨p=q)->¬ ∃j,j≠i/\A j p:=λp hp=>hp.elim (λw=>own p (o.eb.wb p w)) λe=>by rw[e];exact ownq
  have o2:EO (λp=>W p∨p=q) (λb=>B b∨b=q) H2 (λj q=>j≠i/\A j q) (ρ.set i (.sh .wl)) σ H:=by
   refine#[#[λp hp=>?_,λp hp=>hp.elim (λw=> .inl (o.eb.wb p w)) .inr,λp hp=>?_],#[λb x _ h=>hH2 b x h,Wl],by rw[Bs,o.len],λj p h=>if_pos #[j,h],λj p h=>o.aw j p h.2,λj j' p h h'=>o.inj j j' p h.2 h'.2,λj u h=>?_,λj m w h hm=>?_,λj m h=>?_]
   ·rcases hp with hp|hp
    ·obtain⟨xs,e,m⟩:=e0.bl p (.inl hp);exact#[xs,(hH p (own p hp)).trans e,m]
    ·exact#[.lst _,(hH p (wq p (.inr hp))).trans (by rw[hp];exact h3),trivial]
   ·obtain⟨x,y,z,e⟩:=Wl p hp;exact#[x,y,z,(hH p (wq p hp)).trans e]
   ·rcases bT h with ⟨rfl,e,hl⟩|⟨ne,h⟩
    ·cases e;exact#[_,h1,q,rfl,.inr rfl]
    ·obtain⟨v',g1,g2⟩:=o.sh j u h;exact#[v',g1,DU.wm (λ_=> .inl) u (DU.mono k u g2)]
   ·rcases bT h with ⟨rfl,rfl,hl⟩|⟨ne,h⟩
    ·cases hm
    ·obtain⟨p,g1,g3⟩:=o.hd j m w h hm;exact#[p,g1,w.at_ (w.wm (λ_=> .inl) (w.mono k (λ_ _=>rfl) g3)) (aDi ne)]
   ·rcases bT h with ⟨rfl,rfl,hl⟩|⟨ne,h⟩
    ·rfl
    ·exact o.nb j m h
  have keep:∀b x,H0 b=some x->H b=some x->H2 b=some x:=λb x h0 h=>(hH b λ⟨j,_,e⟩=>by rw[o.an j b e]at h0;cases h0).trans h;have fW:∀{Hf},Fw (λp=>W p∨p=q) H2 Hf->Fw W H0 Hf:=λfw=>#[λb x w h0=>fw.fr b x (λz=>z.elim w λe=>by rw[e,nq]at h0;cases h0) (keep b x h0 (o.fw.fr b x w h0)),λp hp=>fw.wo p (.inl hp)];have back:∀p,H2 p=none->H0 p=none:=λp' e2=>by
   cases z:H0 p' with
   |none=>rfl
   |some x=>
    by_cases w:W p'
    ·obtain⟨_,_,_,y⟩:=o2.eb.wo p' (.inl w);rw[y]at e2;cases e2
    ·rw[keep p' x z (o.fw.fr p' x w z)]at e2;cases e2
  refine f o2 h #[λ{A1 ρ1 σ1 Hf} o1 ⟨hn,hE⟩=>?_,λ_ z=>z.elim,λ_ z=>z.elim,λ{s v Hf} fw r hs=>?_,λ_ _ z=>z.elim]
  ·have bx:∀b,¬Bx (λb=>B b∨b=q) A1 b->¬Bx B (λj p=>j≠i/\A1 j p) b:=λb n z=>n (z.elim (λz=> .inl (.inl z)) λ⟨j,z⟩=> .inr #[j,z.2]);have kk:∀b x,¬Bx (λb=>B b∨b=q) A1 b->Hf b=some x->¬Bx B (λj p=>j≠i/\A1 j p) b/\Hf b=some x:=λb x n h=>#[bx b n,h];refine j.nx (A:=λj p=>j≠i/\A1 j p) #[o.eb,fW o1.fw,by rw[Bs,o1.len],λj p h=>back p (o1.an j p h.2),λj p h=>o1.aw j p h.2,λj j' p h h'=>o1.inj j j' p h.2 h'.2,λj u h=>?_,λj m w h hm=>?_,λj m h=>?_] hE
   ·rcases bT h with ⟨_,e,_⟩|⟨ne,h⟩
    ·cases e
    ·obtain⟨v,g1,g2⟩:=o1.sh j u h;refine#[v,g1,?_];rcases hn j _ ne h with n|⟨oo,rfl,n⟩
     ·exact DU.nw u n (DU.mono kk u g2)
     ·exact n (oo.mono kk g2)
   ·rcases bT h with ⟨_,rfl,_⟩|⟨ne,h⟩
    ·cases hm
    ·have n:=hn j _ ne h;obtain⟨p,g1,g3⟩:=o1.hd j m w h hm;refine#[p,g1,?_];cases m with
     |ow l=>
      cases hm;obtain⟨s,xs,h5,d⟩:=g3;exact#[λb=>#[λz=>(s b).mp z.2,λz=>#[ne,(s b).mpr z]],xs,h5,DUs.nw l n (DUs.mono kk l d)]
     |_=>first|exact n.elim|cases hm
   ·rcases bT h with ⟨_,rfl,_⟩|⟨ne,h⟩
    ·rfl
    ·exact o1.nb j m h
  have kb:∀b x,¬(B b∨b=q)->Hf b=some x->¬B b/\Hf b=some x:=λb x n h=>#[λz=>n (.inl z),h];refine j.rt (fW fw) ?_ hs.2;match s,r,hs.1 with
  |.sh u,r,n=>exact DU.nw u n (DU.mono kb u r)
  |.ow l,⟨p',ys,e1,e2,e3,e4⟩,n=>exact#[p',ys,e1,back p' e2,e3,DUs.nw l n (DUs.mono (λb x n h=>#[λz=>n (z.elim (λz=> .inl (.inl z)) .inr),h]) l e4)]
 ·exact h.elim⟩
section
open PySem.Builtin.Dict
variable {prog:Program}{w:World}{A:Around}{E:#v[7]}{s:Shared}{K:Type} [DecidableEq K]{knd:#v[59]}
theorem aNf{α β:Type} [DecidableEq β]{f:α->β}{c:β}:∀{l:List α},(l.map f).Nodup->(l.filter λy=>f y==c).length<=1
 | [],_=>Bg _
 |a::l,h=>by
  rw[Ba,Jd]at h;by_cases e:f a=c
  ·rw[Hx (by simpa using e),Am,List.filter_eq_nil_iff.mpr λy hy z=>h.1 (List.mem_map.mpr #[y,hy,by rw[e];simpa using z])];exact Aj _
  ·rw[Hy (by simpa using e)];exact aNf h.2
def aGj{id:String}{d:Addr}{xs:#v[X]}{o:Obj}{es ep}{Q:Array DictEntry->Shared->Prop}(ho:s.heap.get? d=some o)(hd:o.data=.dict es ep)(he:es.toList=xs.map (entryOfKey knd))(hq:∀x∈xs,∃ob,s.heap.get? x.2.1=some ob/\ob.cls=.type "tuple")(hn:(xs.map λx=>knd.hash x.1).Nodup)(h:Q es s):
  #v[2] (entriesForEmpty id d) Q E s:=by
 unfold entriesForEmpty;refine Aa (Ds ho hd (Aa ?_));rw[<-Et];refine En _ (λrest _ s'=>s'=s/\∀e∈rest,e∈es.toList) _ ?_ ?_ _ _ #[rfl,λe he=>he]
 ·rintro e rest _ s' ⟨rfl,hr⟩;obtain⟨x,hx,rfl⟩:=List.mem_map.mp (by rw[<-he];exact hr e Ah);obtain⟨ob,g1,g2⟩:=hq x hx;have q:∀{Q':Bool->Shared->Prop},Q' false s'->#v[2] (quietEq (entryOfKey knd x).key) Q' E s':=λ{Q'} h=>by
   show wpAny _ _ (specialOf (.ref x.2.1) "__eq__">>=_) _ _ _;refine Aa (Eb #[ob,g1,g2] PySem.F.slot_tuple_eq.lookup (Ac ?_));exact h
  refine Aa (q ?_);rw[if_pos (by rfl),if_neg]
  ·exact Ac #[rfl,λe he=>hr e (Af _ he)]
  ·rw[<-As,Array.toList_filter,he,List.filter_map,Ab];have:=aNf (f:=λy:K×Addr×Value=>knd.hash y.1) (c:=knd.hash x.1) hn;exact Nat.not_lt.mpr this
 ·rintro _ s' ⟨rfl,_⟩;exact Ac h
def aA6{d:Addr}{xs:#v[X]}{Q:#v[7]}(lo:(d==sysModules)=false)(hm:s.heap.DictOfH knd d xs)(hq:∀x∈xs,∃ob,s.heap.get? x.2.1=some ob/\ob.cls=.type "tuple")(hn:(xs.map λx=>knd.hash x.1).Nodup)(hz:xs.length<=sizeLine)
  (h:∀h' o es ep,h'.get? #v[0]=some o->o.ExactDict->o.data=.dict es ep->es.toList=xs.map (entryOfKey knd)->(∀b o,s.heap.get? b=some o->h'.get? b=some o)->Q #v[32] {s with heap:=h'}):
  #v[2] (call (.type "dict") [.ref d]) Q E s:=by
 obtain⟨o,es,ep,h1,h2,h3,h4,h5,h6⟩:=id hm;have lt:d<#v[0]:=Ar h1;refine Qi (Q₁:=λobj s₁=>obj=.ref #v[0]/\s₁={s with heap:=s.heap.push #v[9]}) Uv (Sa _) Ue (Wa _ #[rfl,rfl]) ?_;rintro obj s₁ ⟨rfl,rfl⟩;have hnew:(s.heap.push #v[9]).DictOfH knd #v[0] []:=Pe s.heap;have kp:∀b o,s.heap.get? b=some o->(s.heap.push #v[9]).get? b=some o:=λb o e=>Ae _ e;have g1:=kp d o h1;have hT:Jt {s with heap:=s.heap.push #v[9]} (.ref d) "dict":=#[_,g1,h2.1];have n1:(s.heap.push #v[9]).get? #v[0]=some #v[9]:=Ap _ rfl;refine#[hnew.typeIs,Tp _ _,?_];unfold Builtin.«dict.__init__»;refine Aa ?_;unfold Mh;refine Aa (Hl hnew.typeIs ?_);show wpAny _ _ (pure (#v[0],[Ao d])) _ _ _;refine Ac ?_;show wpAny _ _ (Hi "dict.__init__" #v[0] (.ref d) [] .none) _ _ _;unfold Hi;refine Aa (Hj hT ?_);rw[if_neg (by simp)];generalize hH:s.heap.push #v[9]=H1 at*;unfold Wz Wv;refine Aa (Aa (Aa (Ed hT PySem.F.sub_dict_dict ?_)));rw[if_neg (by simp)];refine Aa (Eb hT PySem.F.slot_dict_iter.lookup (Ac ?_));rw[if_pos (by rfl)];refine Aa (Ac ?_);unfold Wy showsAll;rw[if_neg (by simpa using λz:#v[0]=d=>Dp d (z▸lt)),lo];refine Aa (Ac (Aa (Ds g1 h3 ?_)));dsimp only;cases xs with
 |nil=>
  obtain rfl:es= (List.toArray []):=Array.toList_inj.mp h4;rw[if_neg (by simp)];refine Aa (Hm g1 h3 (Aa (Ds g1 h3 ?_)));rw[Sz];exact Aa (Ac (Ac (Aa (Ac (Ac #[rfl,h _ _ _ _ n1 #[rfl,rfl,rfl] rfl rfl kp])))))
 |cons x xs=>
  have al:(es.all λe=>(keyPart e.key).isSome)=false:=by
   rw[<-Array.all_toList,h4];rfl
  rw[al,Hq,if_pos (by rfl)];refine Aa (Ds n1 rfl ?_);rw[if_pos (by rfl)];refine Aa (aGj g1 h3 h4 (λx hx=>let⟨ob,a,b⟩:=hq x hx;#[ob,kp _ _ a,b]) hn ?_);have ne:es.isEmpty=false:=by
   have:0<es.size:=by rw[<-As,h4];exact Nat.zero_lt_succ _
   simp[Array.isEmpty];intro z;rw[z]at this;cases this
  rw[ne,if_pos (by rfl)];have sz:es.size<=sizeLine+1:=by rw[<-As,h4,Ab];lia
  refine Aa (wpAny_updateDictKeysTo n1 rfl (Ac (Aa (Ac (Ac #[rfl,?_])))) sz);have u1:=Bj (Obj.mapDictKeys λ_=>es) n1 (Obj.isFreed_of_dict (Qx rfl _));refine h _ _ _ _ u1 ((show Obj.ExactDict #v[9]from#[rfl,rfl,rfl]).mapDictKeys _) (Qx rfl _) h4 λb o e=>?_;rw[By _ _ (λz=>by rw[<-z]at e;exact Dp _ (Ar e))];exact kp b o e
end
section
open PySem.Builtin.Dict
variable {X:Cx}{P:Program}{w:World}
def aHt(hc:X.calm=true):dO X (.type "dict") (λxs H Q=>∃a ps,xs=[V.ref a]/\H a=some (.ext (dY X.prog X.w a ps))/\(∀x∈ps,PKy H (x.1,x.2.1))/\(ps.map λx=>(cY (intKind X.prog X.w)).hash x.1).Nodup/\ps.length<=sizeLine/\∀l,H l=none->Q (.ref l) (upd H l (.ext (dY X.prog X.w l ps)))):=by
 intro pins s σ H xs us Q I r h;obtain⟨a,ps,rfl,h1,h2,hn,hz,q⟩:=h;obtain⟨u,rfl,ru⟩:=vals1 r;cases ru;obtain⟨lo,dd⟩:=aTc I.hok h1 h2;have nd:=dd;obtain⟨_,_,_,_,_,_,_,h5,h6⟩:=nd;refine aA6 lo dd (λx hx=>?_) hn hz λh' o es ep g1 g2 g3 g4 kp=>?_
 ·obtain⟨o,v,b,n,e1,e2,_⟩:=h5 x hx;exact#[o,e1,e2]
 ·have hp:dY X.prog X.w #v[0] ps h':=#[beq_eq_false_iff_ne.mpr (Cg (Aw I.big)),o,es,ep,g1,g2,g3,g4,h6];have ok:bO X.prog X.w (upd H #v[0] (.ext (dY X.prog X.w #v[0] ps))) h' #v[0] (.ext (dY X.prog X.w #v[0] ps)):=#[hp,#[o,g1],λh1 h2 p k=>dY.stay h1 h2 p k];exact#[.ref #v[0],_,I.laid (a:=#v[0]) (o:=.ext (dY X.prog X.w #v[0] ps)) (t':=s.toks) kp (Aj _) ok,rfl,q _ #v[G]]
def aVj(P:Program)(w:World)(F:TV):TV:=λρ R=>F ρ λs=>∃kvs,aLt P w s kvs/\((kvs.map (·.1)).map #v[27].hash).Nodup/\kvs.length<=10000/\R (.oo (pdO P w kvs))
def aQu{p pos:Pos}{F:TV}(hP:X.prog=P)(hw:X.w=w)(hc:X.calm=true)(hm:X.mg "dict"=none)(ha:VE X a F)(hg:Gl X "dict":=by rfl)(hs:SE X a []:=by rfl)(hpl:BT X pos []:=by rfl):VE X (.Call (.Name "dict" p) [a] [] pos) (aVj P w F):=by
 subst hP hw;obtain⟨_,p,f⟩:=ha;refine#[_,gO (aHt hc) hg hm boot_dict (bZ p dN hs) ⋯ ⋯ hs hpl,λ{W B ρ σ H R Q} e h q=>f e h λs v H1 h1 w1 r1=>?_];obtain⟨kvs,hs,hn,hl,h2⟩:=h1;obtain⟨a,xs,rfl,g1,g2⟩:=r1.pd hs;have e1:=e.to w1;refine#[a,xs,rfl,g1,λx hx=>aXf (g2.keys.2 x hx),by rw[<-g2.keys.1,Au]at hn;exact hn,by rw[g2.len];exact Ci hl ⋯,λl nl=>q _ _ _ h2 (w1.trans (e1.eb.new nl)) (RO.back (s:=.oo _) w1 #[l,(·=l),rfl,λb hb=>by rw[hb];exact nl,λ_=>Kj,xs,aP,g2.mono λb o nb h=>?_])];exact#[λz=>z.elim nb (aR h nl),(e1.eb.keep (e1.eb.new nl) b o nb h).2]
end
def NdR(W B:Addr->Prop)(H:Hp)(f:Int->Option U)(kvs:List (Key×V)):Prop:=∀i:Int,(f i=none/\lJ kvs (.inl i)=none)∨∃u v,f i=some u/\lJ kvs (.inl i)=some v/\DU W B H u v
def NdK(kvs:List (Key×V)):Prop:=(kvs.map (·.1)).Nodup/\∀p∈kvs,∃i:Int,p.1=.inl i
def ndO(f:Int->Option U)(n:Nat):Own:=⟨λW B S H p=>(∀b,S b↔b=p)/\∃kvs,H p=some (.dK kvs)/\(kvs.length<=n/\NdK kvs)/\NdR W B H f kvs,
 λk e ⟨s,kvs,h,l,r⟩=>#[s,kvs,(e _ ((s _).mpr rfl)).trans h,l,λi=>(r i).imp id λ⟨u,v,a,b,d⟩=>#[u,v,a,b,DU.mono k u d]],λk ⟨s,kvs,h,l,r⟩=>#[s,kvs,h,l,λi=>(r i).imp id λ⟨u,v,a,b,d⟩=>#[u,v,a,b,DU.wm k u d]],
 λ⟨s,_,h,_⟩ b hb=>by rw[(s b).mp hb];exact#[_,h,trivial]⟩
def NdK.put{i:Int}(h:NdK kvs):NdK (putK kvs (.inl i) v):=by
 unfold putK;split
 ·refine#[?_,λp hp=>?_]
  ·rw[Au,show(Prod.fst∘λkv:Key×V=>if kv.1=.inl i then(kv.1,v)else kv)=Prod.fst from funext λx=>by simp only[Function.comp];split<;>rfl];exact h.1
  ·obtain⟨q,hq,rfl⟩:=List.mem_map.mp hp;obtain⟨k,e⟩:=h.2 q hq;refine#[k,?_];show(if q.1=.inl i then(q.1,v)else q).1=_;split<;>exact e
 ·rename_i no;refine#[?_,λp hp=>#v[74].elim (h.2 p) λhp=>#[i,by rw[List.mem_singleton.mp hp]]];rw[Ca,Jv];refine#[h.1,by simp,λa ha b hb e=>no ?_];obtain⟨q,hq,rfl⟩:=List.mem_map.mp ha;have hb:b=.inl i:=by simpa using hb
  exact List.any_eq_true.mpr #[q,hq,decide_eq_true (e.trans hb)]
def aZy:TV:=λ_ R=>R (.oo (ndO (λ_=>none) 0))
def aZh(j:Nat)(Fk Fv:TV):TVS:=λE ρ=>Fv ρ λs=>s.es λu=>∃f n,ρ[j]? =some (.oo (ndO f n))/\n<10000/\Fk ρ λs'=>∃i,s'.rd=.n i/\E.nx (ρ.set j (.oo (ndO (λz=>if z=i then some u else f z) (n+1))))
def aS8{pos:Pos}:VE X (.Dict [] [] pos) aZy:=#[_,aNr,λ{W B ρ σ H R Q} e h q p n=>q _ _ _ h (e.eb.new n) #[p,(·=p),rfl,λb hb=>by rw[hb];exact n,λ_=>Kj,[],aP,#[Aj _,Gg,nofun],λ_=> .inl #[rfl,rfl]]]
def aRc{x:Str}{i value:Expr}{pos pos' p':Pos}{Fk Fv:TV}(j:Nat)(hr:eY k X.A)(hk:VE X i Fk)(hv:VE X value Fv)(hN:X.N[j]? =some x:=by rfl)(hvs:#v[80]:=by trivial)(hd:ND x:=by decide)
  (hcd:NC x:=by decide) (hs:swapsWith value (some (.Subscript #v[E] i pos')) pos.line X.env=pure false:=by rfl):VS X (.Assign [.Subscript #v[E] i pos'] value pos) (aZh j Fk Fv):=by
 obtain⟨_,p1,f1⟩:=hk;obtain⟨_,p2,f2⟩:=hv;refine#[_,aRf (by have:=hr.un;lia) (pA hN hvs hd hcd) p1 p2 hs,λ{W B H0 A ρ σ H E D} o h jj=>f2 o.ee h λsv v H1 h1 w1 r1=>?_];obtain⟨u,⟨f,n,hj,hl,h2⟩,dv⟩:=r1.du o.ee.eb h1;have o1:=o.to w1;obtain⟨q,g1,g2,_⟩:=o1.hd j _ _ hj rfl;refine#[_,g1,f1 o1.ee h2 λsk y H3 h3 w3 r3=>?_];obtain⟨i,ei,h4⟩:=h3;have o3:=o1.to w3;obtain⟨q',g4,_,kvs,g5,g6,g7⟩:=o3.hd j _ _ hj rfl;rw[g1]at g4;cases g4;have d:=r3.db o1.ee.eb;rw[ei]at d;obtain rfl:y=.int i:=d.elim (λd=>d.1) λ⟨_,_,_,e1,_⟩=>nomatch e1
 refine#[q,_,rfl,aOj.k (k:=.inl i) g5 (Nat.lt_of_le_of_lt g6.1 (Kz hl ⋯)),jj.nx (o3.chg g1 ((g2 q).mpr rfl) (s':=.oo (ndO (λz=>if z=i then some u else f z) (n+1))) rfl rfl #[g2,_,aP,#[Ci (sV ..) (by have:=g6.1;lia),g6.2.put],λz=>?_]) h4];have kk:∀b y,¬Bx B A b->H3 b=some y->¬Bx B A b/\upd H3 q (.dK (putK kvs (.inl i) v)) b=some y:=λb y n h=>#[n,(aN (λz:b=q=>n (by rw[z];exact .inr #[j,(g2 q).mpr rfl]))).trans h];show((if z=i then some u else f z)=none/\_)∨∃u_1 v_1,(if z=i then some u else f z)=some u_1/\_;rw[aM0];by_cases e:z=i
 ·subst e;exact .inr #[u,v,if_pos rfl,if_pos rfl,DU.mono kk u (DU.mono (o1.ee.eb.keep w3) u dv)]
 ·rw[if_neg e,if_neg λh=>e (Tx h)];exact(g7 z).imp id λ⟨u,v,a,b,d⟩=>#[u,v,a,b,DU.mono kk u d]
inductive aLn(H:Hp):List V->List (Tke×Addr×V)->Prop
 |nil:aLn H [] []
 |cons {vs:List V} {r:List (Tke×Addr×V)} {k:Tke} {c p:Addr} {v:V}:H p=some (.tup [.ref c,v])->PKy H (k,c)->aLn H vs r->aLn H (.ref p::vs) ((k,c,v)::r)
inductive aKl:List (Tke×Addr×V)->#v[13]->Prop
 |nil:aKl [] []
 |cons {k:Tke} {c:Addr} {v:V} {x:Value} {r:List (Tke×Addr×V)} {s:#v[13]}:RelV v x->aKl r s->aKl ((k,c,v)::r) ((k,c,x)::s)
def aKc{P:Program}{w:World}{H:Hp}{h:Heap}(hok:HOk P w H h)(t:aLn H vs zs)(rv:Vals vs its):
  ∃ws,aKl zs ws/\ws.map (·.1)=zs.map (·.1)/\ws.length=its.length/\(∀x∈ws,PKy H (x.1,x.2.1))/\∀(i:Nat)(v:Value),its[i]? =some v->∃x p,ws[i]? =some x/\v=.ref p/\h.TwoAt p (.ref x.2.1) x.2.2:=by
 induction t generalizing its with
 |nil=>
  cases rv;exact#[[],.nil,rfl,rfl,nofun,λi v e=>by simp at e]
 |@cons vs r k c p v e1 e2 t ih=>
  cases rv with
  |@cons _ u _ _ ru rs=>
   obtain⟨ws,h1,h5,h2,h4,h3⟩:=ih rs;obtain rfl:u=Ao p:=ru;obtain⟨_,its,ri,o,g1,g2,n,g3⟩:=(show bO P w H h p (.tup [.ref c,v])from hok p _ e1);obtain⟨v1,v2,rfl,r1,r2⟩:=vals2 ri;obtain rfl:v1=Ao c:=r1;refine#[(k,c,v2)::ws,.cons r2 h1,congrArg (k::·) h5,congrArg (·+1) h2,λx hx=>(List.mem_cons.mp hx).elim (λz=>z▸e2) (h4 x),λi v e=>?_];cases i with
   |zero=>
    obtain rfl:Ao p=v:=by simpa using e
    exact#[_,p,rfl,rfl,o,n,g1,g2,g3]
   |succ i=>exact h3 i v (by simpa using e)
def aRl{W B:Addr->Prop}{H:Hp}{kvs:List (Tke×U)}(d:DUs W B H (kvs.map λp=>U.tp [tkU p.1,p.2]) vs):∃zs,aLn H vs zs/\zs.map (·.1)=kvs.map (·.1)/\∀ws,aKl zs ws->PdR W B H kvs ws:=by
 induction kvs generalizing vs with
 |nil=>
  obtain rfl:vs=[]:=d;exact#[[],.nil,rfl,λws h=>by cases h;exact .nil]
 |cons k ks ih=>
  obtain⟨v,r,rfl,d,t⟩:=d;obtain⟨zs,h1,h2,h3⟩:=ih t;obtain⟨p,ys,rfl,nb,hp,y1,_,rfl,d1,y2,r2,rfl,d2,e3⟩:=d;obtain rfl:r2=[]:=e3;obtain⟨b,rfl,kb⟩:=aNm d1;exact#[(k.1,b,y2)::zs,.cons hp kb h1,by rw[Ba,Ba,h2],λws h=>by cases h with|cons rv t=>exact .cons d1 rv d2 (h3 _ t)]
inductive aJ3(P:Program)(w:World)(xs:List V)(H:Hp)(Q:VK):Prop
 |mk (l vs zs:_) (q0_:xs=[.ref l]) (q1_:H l=some (.lst vs)) (q2_:aLn H vs zs) (q3_:(zs.map (·.1)).Nodup) (q4_:∀ws,aKl zs ws->∀d,H d=none->Q (.ref d) (upd H d (.ext (dY P w d ws)))):aJ3 P w xs H Q
def aW3(P:Program)(w:World):List V->Hp->VK->Prop:=λxs H Q=>aJ3 P w xs H Q
def aIa{X:Cx}(hc:X.calm=true)(hu:X.A.units+4<cLine):dO X (.type "dict") (aW3 X.prog X.w):=by
 intro pins s σ H xs us Q I r h;obtain⟨l,vs,zs,rfl,hl,hp,nd,q⟩:=h;obtain⟨u,rfl,ru⟩:=vals1 r;obtain rfl:u=Ao l:=ru;obtain⟨z,its,n,rv,hg⟩:=(show bO X.prog X.w H s.heap l (.lst vs)from I.hok l _ hl);obtain⟨ws,h0,h5,h2,h1,h3⟩:=aKc I.hok hp rv;have lz:its.length<=sizeLine:=by rw[<-rv.length];exact z
 refine yG (knd:=cY (intKind X.prog X.w)) #v[58] hg (show X.A.in1.in1.units+1<cLine by show X.A.units+1+1+1<cLine;lia) (λh' x a e k=>aS6 e k) ws (by rw[h2,Ak]) (by rw[Ak];exact lz) (λx hx=>yR I.hok (h1 x hx)) (λi v e=>h3 i v (by simpa using e)) λh' tk hd hk'=>?_;rw[aGl _ ws rfl (by rw[h5];exact nd)]at hd;obtain⟨o,es,ep,g1,g2,g3,g4,g5⟩:=hd;have hpo:dY X.prog X.w #v[0] ws h':=#[beq_eq_false_iff_ne.mpr (Cg (Aw I.big)),o,es,ep,g1,g2,g3,g4,g5];have ok:bO X.prog X.w (upd H #v[0] (.ext (dY X.prog X.w #v[0] ws))) h' #v[0] (.ext (dY X.prog X.w #v[0] ws)):=#[hpo,#[o,g1],λa b p k=>dY.stay a b p k];exact#[.ref #v[0],_,I.laid (a:=#v[0]) (o:=.ext (dY X.prog X.w #v[0] ws)) (t':=tk) hk' (Aj _) ok,rfl,q _ h0 _ #v[G]]
def bB6(P:Program)(w:World)(F:TV):TV:=λρ R=>F ρ λs=>∃kvs:List (Tke×U),s.rd=.ls (kvs.map λp=> .tp [tkU p.1,p.2])/\(kvs.map (·.1)).Nodup/\R (.oo (pdO P w kvs))
def aXy{X:Cx}{P:Program}{w:World}{p pos:Pos}{F:TV}(hP:X.prog=P)(hw:X.w=w)(hr:eY k X.A)(hc:X.calm=true)(hm:X.mg "dict"=none)(ha:VE X a F)(hg:Gl X "dict":=by rfl)(hs:SE X a []:=by rfl)(hpl:BT X pos []:=by rfl):VE X (.Call (.Name "dict" p) [a] [] pos) (bB6 P w F):=by
 subst hP hw;obtain⟨_,p,f⟩:=ha;refine#[_,gO (aIa hc (by have:=hr.un;lia)) hg hm boot_dict (bZ p dN hs) ⋯ ⋯ hs hpl,λ{W B ρ σ H R Q} e h q=>f e h λs v H1 h1 w1 r1=>?_];obtain⟨kvs,es,nd,h2⟩:=h1;have e1:=e.to w1;have d:=r1.db e.eb;rw[es]at d;obtain⟨p,xs,rfl,hp,ds⟩:∃p xs,v=.ref p/\H1 p=some (.lst xs)/\DUs W B H1 (kvs.map λp=>U.tp [tkU p.1,p.2]) xs:=d.elim (λ⟨p,xs,a,_,b,c⟩=>#[p,xs,a,b,c]) λ⟨l',p,xs,e1,a,_,b,c⟩=>by cases e1;exact#[p,xs,a,b,c]
 obtain⟨zs,t1,t2,t3⟩:=aRl ds;exact#[p,xs,zs,rfl,hp,t1,by rw[t2];exact nd,λws rw l nl=>q _ _ _ h2 (w1.trans (e1.eb.new nl)) (RO.back (s:=.oo _) w1 #[l,(·=l),rfl,λb hb=>by rw[hb];exact nl,λ_=>Kj,ws,aP,(t3 ws rw).mono λb o nb h=>#[λz=>z.elim nb (aR h nl),(e1.eb.keep (e1.eb.new nl) b o nb h).2]])]
variable {s:Shared}
open Classical in
inductive aQh(us:List U)(R:(Sl->Prop)):Prop
 |mk (ns:List Int) (q0_:us=[.ls #v[w]]) (q1_:ns.length<64) (q2_:∀ms:List Int,ms.Perm ns->ms.Pairwise (·<=·)->R (.ow (ms.map U.n))):aQh us R
def aZ2:List U->(Sl->Prop)->Prop:=λus R=>aQh us R
def aJd{K:Ad}:CB (aJt K) aZ2:=λ{W B H us vs R Q} e d ⟨ns,eu,hl,h⟩ q=>by
 subst eu;obtain⟨x,rfl,dd⟩:=DBs.one d;obtain⟨p,xs,rfl,_,hp,ds⟩:=dd.ls e;rw[ds.ints]at hp;refine#[p,ns,rfl,SqL.of hp,hl,λms h1 h2 r n=>?_];have f:=e.new (o:=.lst (ms.map V.int)) n;exact q _ _ _ (h ms h1 h2) f #[r,_,rfl,n,aP,DUs.mapInts]
def vLr(F:TVa):TV:=λρ R=>F ρ λus=>∃n:Nat,us=[.n (n:Int)]/\n<=1000/\R (.ow (gR 0 n))
def aZf{X:Cx}{F:TVa}{p p' pos pos':Pos}(hc:X.calm=true)(h1:X.mg "list"=none)(h2:X.mg "range"=none)(ha:VB X [a] F)(g1:Gl X "list":=by rfl)(g2:Gl X "range":=by rfl)(hs:SE X a []:=by rfl)(hpl:BT X pos' []:=by rfl)
  (hs':starEach [.Call (.Name "range" p') [a] [] pos'] X.env=(false,eval (.Call (.Name "range" p') [a] [] pos') X.env)::starEach [] X.env:=by rfl) (hpl':BT X pos []:=by rfl):VE X (.Call (.Name "list" p) [.Call (.Name "range" p') [a] [] pos'] [] pos) (vLr F):=
 let⟨_,q,f⟩:=ha;⟨_,gO (aG4 hc) g1 h1 Ew (bZ (gO aEk g2 h2 Vi q ⋯ ⋯ hs hpl) dN hs') ⋯ ⋯ hs' hpl',λ{W B ρ σ H R Q} e h q=>f e h λus vs H1 ⟨n,eu,xl,h1⟩ w1 d=>by
  subst eu;have e1:=e.to w1;obtain⟨x,rfl,dd⟩:=DBs.one d;obtain⟨rfl,_⟩:=dd.fl;refine#[n,rfl,λr nr=>#[r,n,rfl,aP,xl,λl nl=>?_]];have w2:=e1.eb.new (o:=.rng 0 n) nr;have w3:=(e1.eb.to w2).new (o:=.lst ((Bh n).map λk:Nat=>V.int (k:Int))) nl;have hn:H1 l=none:=by
   refine Option.eq_none_iff_forall_ne_some.mpr λo ho=>?_;have:=(aN (aR ho nr):upd H1 r (.rng 0 n) l=H1 l);rw[this,ho]at nl;cases nl
  refine q _ _ _ h1 ((w1.trans w2).trans w3) #[l,_,rfl,w1.none_ hn,aP,?_];have:=DUs.mapInts (W:=W) (B:=λb=>B b∨b=l) (H:=upd (upd H1 r (.rng 0 n)) l (.lst ((Bh n).map λk:Nat=>V.int (k:Int)))) (ns:=(Bh n).map λk:Nat=>(k:Int));unfold gR;simpa[Au,Qe]using this⟩
inductive LlR(W B:Addr->Prop)(H:Hp):List (List U)->List Addr->Prop
 |nil:LlR W B H [] []
 |cons {l:List U} {ls:List (List U)} {q:Addr} {qs:List Addr} {vs:List V}:H q=some (.lst vs)->DUs W B H l vs->LlR W B H ls qs->LlR W B H (l::ls) (q::qs)
section
variable {W W' B B':Addr->Prop}{H H':Hp}{ls:List (List U)}{qs:List Addr}
def LlR.mono(k:#v[43])(e:∀b∈qs,H' b=H b)(h:LlR W B H ls qs):LlR W B' H' ls qs:=by
 induction h with
 |nil=>exact .nil
 |cons h d t ih=>exact .cons ((e _ Ah).trans h) (DUs.mono k _ d) (ih λb hb=>e b (Af _ hb))
def LlR.wm(k:∀p,W p->W' p)(h:LlR W B H ls qs):LlR W' B H ls qs:=by
 induction h with
 |nil=>exact .nil
 |cons h d t ih=>exact .cons h (DUs.wm k _ d) ih
def LlR.th(h:LlR W B H ls qs)(b:Addr)(hb:b∈qs):∃vs,H b=some (.lst vs):=by
 induction h with
 |nil=>cases hb
 |cons h d t ih=>
  rcases List.mem_cons.mp hb with rfl|z
  ·exact#[_,h]
  ·exact ih z
def LlR.at_{i:Nat}{l:List U}(h:LlR W B H ls qs)(hi:ls[i]? =some l):∃q vs,qs[i]? =some q/\H q=some (.lst vs)/\DUs W B H l vs:=by
 induction h generalizing i with
 |nil=>simp at hi
 |cons h d t ih=>
  cases i with
  |zero=>cases hi;exact#[_,_,rfl,h,d]
  |succ i=>exact ih hi
def LlR.len(h:LlR W B H ls qs):ls.length=qs.length:=by
 induction h with
 |nil=>rfl
 |cons _ _ _ ih=>exact congrArg (·+1) ih
def LlR.put{i:Nat}(hq:B q)(h:LlR W B H ls qs)(nd:qs.Nodup)(hi:qs[i]? =some q)(d:DUs W B H l' vs'):LlR W B (upd H q (.lst vs')) (ls.set i l') qs:=by
 have kk:∀b o,¬B b->H b=some o->¬B b/\upd H q (.lst vs') b=some o:=λb o n h=>#[n,(aN (λz:b=q=>n (z▸hq))).trans h];induction h generalizing i with
 |nil=>simp at hi
 |@cons l ls q' qs vs h dl t ih=>
  rw[Jd]at nd;cases i with
  |zero=>
   have e:q'=q:=by simpa using hi
   subst e;exact .cons aP (DUs.mono kk _ d) (t.mono kk λb hb=>aN λz=>nd.1 (z▸hb))
  |succ i=>
   have hi:qs[i]? =some q:=by simpa using hi
   exact .cons ((aN λz:q'=q=>nd.1 (by rw[z];exact Ai hi)).trans h) (DUs.mono kk _ dl) (ih nd.2 hi)
def LlR.dus(n:∀b∈qs,¬B b)(h:LlR W B H ls qs):DUs W B H (ls.map .ls) (qs.map .ref):=by
 induction h with
 |nil=>rfl
 |cons h d t ih=>exact#[_,_,rfl,#[_,_,rfl,n _ Ah,h,d],ih λb hb=>n b (Af _ hb)]
end
def llO(ls:List (List U)):Own:=⟨λW B S H p=>∃qs:List Addr,(∀b,S b↔b=p∨b∈qs)/\p∉qs/\qs.Nodup/\H p=some (.lst (qs.map V.ref))/\LlR W B H ls qs,
 λk e ⟨qs,s,n,nd,h,r⟩=>#[qs,s,n,nd,(e _ ((s _).mpr (.inl rfl))).trans h,r.mono k λb hb=>e b ((s b).mpr (.inr hb))],λk ⟨qs,s,n,nd,h,r⟩=>#[qs,s,n,nd,h,r.wm k],
 λ⟨qs,s,n,nd,h,r⟩ b hb=>((s b).mp hb).elim (λz=>by rw[z];exact#[_,h,trivial]) λz=>let⟨vs,g⟩:=r.th b z;#[_,g,trivial]⟩
def aZq{W B S:Addr->Prop}{H:Hp}(n:∀b,S b->¬B b)(h:(llO ls).φ W B S H p):DU W B H (.ls (ls.map .ls)) (.ref p):=
 let⟨qs,s,_,_,h,r⟩:=h;#[p,_,rfl,n p ((s p).mpr (.inl rfl)),h,r.dus λb hb=>n b ((s b).mpr (.inr hb))]
def bBk(i:Nat)(G:TVS):TVS:=λE ρ=>∃ls,ρ[i]? =some (.oo (llO ls))/\G E (ρ.set i (.sh (.ls (ls.map .ls))))
def aVx(j:Nat)(Fk F:TV):TVS:=λE ρ=>∃ls,ρ[j]? =some (.oo (llO ls))/\Fk ρ λsk=>∃(i:Int)(n:Nat)(l:List U),sk.rd=.n i/\ixN ls.length i=some n/\ls[n]? =some l/\l.length<10000/\F ρ λs=>s.es λu=>E.nx (ρ.set j (.oo (llO (ls.set n (l++[u])))))
def aZt(j:Nat)(Fk Fv:TV):TVS:=λE ρ=>Fv ρ λs=>s.es λu=>match (ρ[j]? :Option Sl)with
 |some (.ow l)=>Fk ρ λs'=>∃(i:Int)(n:Nat),s'.rd=.n i/\ixN l.length i=some n/\E.nx (ρ.set j (.ow (l.set n u)))
 |_=>False
def vLl(Fi:TVa):TV:=λρ R=>Fi ρ λl=>l.length<=10000/\R (.oo (llO (l.map λ_=>[])))
def DUs.setN{W B:Addr->Prop}{H:Hp}(d:DU W B H u v):∀{l:List U}{xs:List V}(n:Nat),DUs W B H l xs->DUs W B H (l.set n u) (xs.set n v)
 | [],_,_,h=>by rw[show _=[]from h];exact rfl
 |_::_,_,0,⟨x,r,e,_,t⟩=>by rw[e];exact#[v,r,rfl,d,t]
 |_::_,_,n+1,⟨x,r,e,h,t⟩=>by rw[e];exact#[x,_,rfl,h,DUs.setN d n t]
def aJ6{n k:Nat}{i:Int}{α:Type}{xs:List α}{x:α}(hn:xs.length=n)(h:ixN n i=some k)(hx:xs[k]? =some x):atI xs i=some x:=by
 unfold atI;rw[hn,h];exact hx
def aDe{st:List Stmt}{G:TVS}(i:Nat)(h:VSs X st G):VSs X st (bBk i G):=let⟨_,p,f⟩:=h;#[_,p,λo h j=>let⟨_,hi,h⟩:=h;f (o.frz hi rfl aZq) h j]
def aZ7(a:TV):TV:=λρ R=>a ρ λs=>∃ls,s=.bo (llO ls)/\R (.sh (.n ls.length))
def aS7{o:Expr}{p pos:Pos}{F:TV}(hm:X.mg "len"=none)(ha:VE X o F)(hg:Gl X "len":=by rfl)(hs:SE X o []:=by rfl)(hpl:BT X pos []:=by rfl):VE X (.Call (.Name "len" p) [o] [] pos) (aZ7 F):=by
 obtain⟨_,p,f⟩:=ha;refine#[_,iH aK hg hm Br (bZ p dN hs) ⋯ ⋯ hs hpl,λ{W B ρ σ H R Q} e h q=>f e h λs v H1 h1 w1 r1=>?_];obtain⟨ls,rfl,h3⟩:=h1;obtain⟨a,S,rfl,nw,qs,gs,gp,gn,gx,gr⟩:=r1;refine#[a,_,rfl,.inl (SqL.of gx),q _ _ _ h3 w1 ?_];rw[Ab,gr.len];exact#[rfl,rfl]
def aF8{x:Str}{i a:Expr}{p' sp apos cpos pos:Pos}{Fk F:TV}(j:Nat)(hk:VE X i Fk)(ha:VE X a F)(hN:X.N[j]? =some x:=by rfl)(hv:#v[80]:=by trivial)(hd:ND x:=by decide)
  (hcd:NC x:=by decide) (hn:yQ i:=by exactλ_ _=>rfl)
  (hbase:attributeBase #v[76] "append" X.env (eval #v[76] X.env)=eval #v[76] X.env:=by rfl)
  (hfew:((backTo cpos (starEach [a] X.env)).all (λx=> !x.1) && (backToKw cpos #v[30]).all (λx=>x.1.isSome)
   && decide ([a].length+([]:List Keyword).length+(if([]:List Keyword).isEmpty then 0 else 1)<30))=true:=by rfl)
  (hline:EL apos cpos:=by rfl) (hs:SE X a []:=by rfl) (hplain:BT X cpos []:=by rfl)
  (hsw:swapsWith (.Call (.Attribute #v[76] "append" apos) [a] [] cpos) none pos.line X.env=pure false:=by rfl):
  VS X (.Expr (.Call (.Attribute #v[76] "append" apos) [a] [] cpos) pos) (aVx j Fk F):=by
 obtain⟨_,p1,f1⟩:=hk;obtain⟨_,p2,f2⟩:=ha;refine#[_,qW (aJ2 Ht Nm Nl xN (tR lA (pA hN hv hd hcd) p1 hn) (bZ p2 dN hs) hbase hfew hline hs hplain) hsw,λ{W B H0 A ρ σ H E D} o h jj=>?_];obtain⟨ls,hj,h⟩:=h;obtain⟨p,g1,_⟩:=o.hd j _ _ hj rfl;refine#[_,g1,f1 o.ee h λsk y H1 h1 w1 r1=>?_];obtain⟨i,n,l,ek,hi,hl,ll,h1⟩:=h1;have o1:=o.to w1;obtain⟨p',g2,qs,gs,gp,gn,gx,gr⟩:=o1.hd j _ _ hj rfl;rw[g1]at g2;cases g2;have d:=r1.db o.ee.eb;rw[ek]at d;obtain⟨q,vs,a1,a2,a3⟩:=gr.at_ hl;refine#[p,_,i,.ref q,rfl,d.int,SqL.of gx,aJ6 (by rw[Ab,gr.len]) hi (by rw[Ay,a1];rfl),.inl #[rfl,_,SqL.of a2],f2 o1.ee h1 λs v H2 h2 w2 r2=>?_];obtain⟨u,h3,du⟩:=r2.du o1.ee.eb h2;have o2:=o1.to w2;have ke:∀b,A j b->H2 b=H1 b:=λb hb=>let⟨y,hy,_⟩:=o1.aw j b hb;(w2.fr b y (o1.nw hb) hy).trans hy.symm;have gr2:=gr.mono (o1.ee.eb.keep w2) λb hb=>ke b ((gs b).mpr (.inr hb));have mq:=Ai a1;have Aq:A j q:=(gs q).mpr (.inr mq);have a2:=(ke q Aq).trans a2;have pq:p≠q:=λz=>gp (by rw[z];exact mq);refine#[q,vs,v,rfl,rfl,a2,?_,jj.nx (o2.chg g1 Aq (s':=.oo (llO (ls.set n (l++[u])))) rfl rfl #[qs,gs,gp,gn,(aN pq).trans ((ke p ((gs p).mpr (.inl rfl))).trans gx),gr2.put (.inr #[j,Aq]) gn a1 ((DUs.mono (o1.ee.eb.keep w2) _ a3).app (DUs.one du))]) h3];have:=a3.length;have:(10000:Nat)<=sizeLine:=by decide
 lia
def zF{x:Str}{i value:Expr}{pos pos' p':Pos}{Fk Fv:TV}(j:Nat)(hk:VE X i Fk)(hv:VE X value Fv)(hN:X.N[j]? =some x:=by rfl)(hvs:#v[80]:=by trivial)(hd:ND x:=by decide)
  (hcd:NC x:=by decide) (hs:swapsWithSole [.Subscript #v[E] i pos'] value pos.line X.env=pure false:=by rfl) (hw:swappedStores [.Subscript #v[E] i pos'] value X.env=pure none:=by rfl)
  (h1:(assignEach [.Subscript #v[E] i pos'] X.env).map (·.2)=[assign (.Subscript #v[E] i pos') X.env]:=by rfl)
  (ha:∀v,assign (.Subscript #v[E] i pos') X.env v=(do
   let ov<-holding [v] (eval #v[E] X.env)
   let iv<-holding [v,ov] (eval i X.env)
   standAt pos'
   holding [v,ov,iv] (setItem ov iv v)
   release [v,ov,iv] []):=by intro _;rfl):VS X (.Assign [.Subscript #v[E] i pos'] value pos) (aZt j Fk Fv):=by
 obtain⟨_,p1,f1⟩:=hk
 obtain⟨_,p2,f2⟩:=hv
 refine#[_,aD2 p2 (aIo (pA hN hvs hd hcd) p1 set_list ha) hs hw h1,λ{W B H0 A ρ σ H E D} o h jj=>f2 o.ee h λsv v H1 h1 w1 r1=>?_]
 obtain⟨u,h1,dv⟩:=r1.du o.ee.eb h1
 have o1:=o.to w1
 split at h1
 ·rename_i l hj
  obtain⟨q,xs,g1,g2,g3,g4⟩:=o1.ow j l hj
  refine#[_,g1,f1 o1.ee h1 λs' v' H2 h2 w2 r2=>?_]
  obtain⟨i,n,ei,hi,h3⟩:=h2
  have d:=r2.db o1.ee.eb
  rw[ei]at d
  have o2:=o1.to w2
  obtain⟨q',ys,k1,k2,k3,k4⟩:=o2.ow j l hj
  rw[g1]at k1
  cases k1
  exact#[q,ys,i,n,rfl,d.int,k3,by rw[<-k4.length];exact hi,jj.nx (o2.own g1 g2 (k4.setN (DU.mono (o1.ee.eb.keep w2) u dv) n)) h3]
 ·exact h1.elim
def Sdl(H1:Hp)(D:Addr)(H2:Hp):Prop:=∃qs:List Addr,H2 D=some (.lst (qs.map V.ref))/\qs.Nodup/\∀q∈qs,H1 q=none/\q≠D/\H2 q=some (.lst [])
def aZ0{Fi:TVa}(f:aS0 wi Fi)(hG:VTh 1 g (gZ 0)):VT (vW 1 [] wi g (aVu aIm)) (vLl Fi):=λ{W B ρ σ H R Q} e h q=>by
 refine f e h λl J H1 h1 w wk D n1=>?_;obtain⟨kl,h2⟩:=h1;have e1:=e.to w;have nW:∀{b},H1 b=none->¬W b:=λn z=>e1.eb.nw n (e1.eb.wb _ z);refine#[λi m σ2 H2=>CW W B H1 D (tM 1 [] ρ) l (λu k=>k (some (.ls []))) (λus=>us=l.map λ_=> .ls []) i m σ2 H2/\Sdl H1 D H2,#[_,CW.beg e1 n1 (cD (h:=λu=> .ls []) (λ_ _ _ h=>h) (by rw[Bd])),[],aP,Gg,nofun],λi m σ2 H2 ⟨c,qs,s1,s2,s3⟩=>?_];have ceb:EB W (λb=>B b∨b=D) H2:=let⟨_,_,_,_,c,_⟩:=c;c.ee.eb;have fw:Fw W H1 H2:=let⟨_,_,_,_,c,_⟩:=c;c.fw;have tr:Tr B H1 (λb=>B b∨b=D) H2:=λb o nb h=>#[λz=>z.elim nb (aR h n1),(e1.eb.keep fw b o nb h).2];by_cases hlt:i<l.length
 ·refine .inr #[wk.go i tr fw hlt,λx H3 y=>?_];have w3:=(wk.yld i ceb tr fw (Ag hlt) y).1;obtain⟨u,us,e3,d3,h3,put,_⟩:=c.turn e1 n1 kl wk hlt y;refine hG e3 d3 (k:=λr=>r=(tM 1 [] ρ).set 0 (.sh u)) rfl λρ' σ' e' l' a' h'=>?_;subst h';refine#[Bg _,λq nq=>?_];have D3:H3 D=some (.lst (qs.map V.ref)):=w3.fr D _ (nW n1) s1;have qD:q≠D:=λz=>by rw[z,D3]at nq;cases nq
  have w4:Fw W H3 (upd H3 q (.lst [])):=e'.eb.new nq;have at5:∀{b o},H3 b=some o->upd H3 q (.lst []) b=some o:=λ{b o} h=>by rw[aN (aR h nq)];exact h
  have nB:¬(B q∨q=D):=λz=>e'.eb.dm _ z nq;obtain⟨ys,y1,y2,y3,y4,y5⟩:=put (.ls []) (.ref q) σ' _ h3 w4 #[q,[],rfl,nB,aP,rfl] l' a';have ey:=(at5 D3).symm.trans y1;cases ey;have H1n:H1 q=none:=by
   cases hb:H1 q with
   |none=>rfl
   |some o=>rw[w3.fr q o (λz=>by obtain⟨_,_,_,y⟩:=w3.wo q z;rw[nq]at y;cases y) (fw.fr q o (λz=>by obtain⟨_,_,_,y⟩:=w3.wo q z;rw[nq]at y;cases y) hb)]at nq;cases nq
  refine#[_,y1,y2,y3,y4,y5,qs++[q],by rw[Ca];exact aP,?_,λx hx=>?_]
  ·rw[Jv];refine#[s2,by simp,λa ha b hb z=>?_];have hb:b=q:=by simpa using hb
   have:=w3.fr a _ (nW (s3 a ha).1) (s3 a ha).2.2;rw[z,hb,nq]at this;cases this
  ·rcases List.mem_append.mp hx with hx|hx
   ·obtain⟨b1,b2,b3⟩:=s3 x hx;exact#[b1,b2,(aN b2).trans (at5 (w3.fr _ _ (nW b1) b3))]
   ·have hx:x=q:=by simpa using hx
    subst hx;exact#[H1n,qD,(aN qD).trans aP]
 ·refine .inl #[?_,?_]
  ·have hi':=c.2.1;obtain rfl:i=l.length:=by lia
   exact wk.stop tr fw
  ·have hi':=c.2.1;obtain rfl:i=l.length:=by lia
   obtain⟨_,_,us,acc,c,_,h3⟩:=c;rw[Mv]at h3;have h3:us=l.map λ_=>U.ls []:=h3;subst h3;have ea:=c.dl.symm.trans s1;cases ea;have ql:qs.length=l.length:=by have:=c.du.length;simpa using this.symm
   have D1:H1 D=none:=n1;refine q _ _ _ h2 (w.trans fw) (RO.back (s:=.oo _) w #[D,λb=>b=D∨b∈qs,rfl,λb hb=>hb.elim (λz=>by rw[z];exact n1) λz=>(s3 b z).1,qs,λ_=>Kj,λz=>(s3 D z).2.1 rfl,s2,s1,?_]);have mk:∀(B':Addr->Prop)(l:List U)(qs:List Addr),qs.length=l.length->(∀q∈qs,H2 q=some (.lst []))->LlR W B' H2 (l.map λ_=>[]) qs:=by
    intro B' l;induction l with
    |nil=>intro qs hl _;rw[List.length_eq_zero_iff.mp hl];exact .nil
    |cons u l ih=>
     intro qs hl hq;cases qs with
     |nil=>cases hl
     |cons q qs=>exact .cons (hq q Ah) rfl (ih qs (Jb hl) λb hb=>hq b (Af _ hb))
   exact mk _ l qs ql λq hq=>(s3 q hq).2.2
def aM7{i:Nat}{x y:Str}{elt iter tg:Expr}{pos spos py:Pos}{Fi:TVa}(hnd:X.N.Nodup)(sc0:Scope)(N0:List Str)(hsc:#v[64])(hN:X.N=N0)(hcell:HC X)
  (ok:oX scope sc0 [] N0) (hc:X.calm=true) (hi:VIc X tg iter Fi) (hg:∀cl C s2 H2 fp,PG (bD X (cL [y] []) scope cl C s2 H2 fp) tg g) (hG:VTh 1 g (gZ 0)) (he:∀cl C s2 H2 fp,PE (bD X (cL [y] []) scope cl C s2 H2 fp) elt (aVu aIm))
  (hi':X.N[i]? =some x:=by rfl) (hx:#v[C]:=by exact Cv rfl) (hsw:#v[k]:=by rfl)
  (hs:FS X iter:=by intro _;rfl) (hf:FL X x:=by trivial):VS X #v[22] (aPk i (vLl Fi)):=
 let⟨_,p,f⟩:=hi;#[_,aUq (own:=[y]) (cap:=[]) hnd hi' hx sc0 N0 hsc hN hcell ok hc p hg he hsw hs hf,λo h j=>aZ0 f hG o.ee h λs v H1 h1 w r=>aAe o w r h1 j.nx]
def Fzb:HO->Prop
 |.dK _=>True
 |.ext _=>True
 |_=>False
section
variable {X:Cx}{pins:#v[8]}{σ:St}{H:Hp}{s:Shared}{d:Addr}{u:HO}{o:Obj}
def Inv.freezeU(fu:Fzb u)(I:#v[4])(e:H d=some u)(ho:s.heap.get? d=some o):Inv X pins σ (upd H d (.frz o u)) s:=by
 have ne:∀{b:Addr}{u':HO},H b=some u'->¬Fzb u'->b≠d:=λq n z=>n (by rw[z,e]at q;cases q;exact fu);have st:∀{b:Addr}{x:HO},bO X.prog X.w H s.heap b x->bO X.prog X.w (upd H d (.frz o u)) s.heap b x:=λh=>h.stay (λ_ _ _ z=>z) (λc z=>by rw[aN (ne z λz=>z)];exact z) λc xs z=>by rw[aN (ne z λz=>z)];exact z
 refine I.un (h':=s.heap) (t':=s.toks) #[λb u q _ _ _=>q,λb u q _ _ _=>#[u.slots,q],λb u q n _=>?_,λb u q _=>#[u,q],λb xs q=>?_,λb u v q=>?_,λb ps q=>#[(List.toArray []),?_]] λb u q=>?_
 ·rw[aN (λz=>by rw[z,e]at n;cases n)];exact n
 ·rw[aN (ne q λz=>z)];exact q
 ·rw[aN (ne q λz=>z)];exact q
 ·rw[aN (ne q λz=>z),q];simp
 ·by_cases hb:b=d
  ·subst hb;rw[aP]at q;cases q;exact#[ho,st (I.hok b _ e)]
  ·rw[aN hb]at q;exact st (I.hok b u q)
def Inv.thawU(fu:Fzb u)(I:#v[4])(n0:∀o u,X.H₀ d≠some (.frz o u))(e:H d=some (.frz o u)):Inv X pins σ (upd H d u) s:=by
 have ne:∀{b:Addr}{x:HO},H b=some x->x≠.frz o u->b≠d:=λq n z=>n (by rw[z,e]at q;cases q;rfl);have nn:∀{b:Addr},H b=none->b≠d:=λq z=>by rw[z,e]at q;cases q
 have st:∀{b:Addr}{x:HO},bO X.prog X.w H s.heap b x->bO X.prog X.w (upd H d u) s.heap b x:=λh=>h.stay (λ_ _ _ z=>z) (λc z=>by rw[aN (ne z (by intro z;cases z))];exact z) λc xs z=>by rw[aN (ne z (by intro z;cases z))];exact z
 refine#[I.ok,I.os,I.bare,#[I.base.keep,I.base.slot,λb u q n hx=>?_,I.base.there,λb xs q=>?_,λb u v q=>?_,λb ps q=>?_],I.loc,I.cell,?_,λx c q=>?_,λp hp=>?_,λb u q=>?_,I.len]
 ·have:=I.base.free b u q n hx;rw[aN (nn this)];exact this
 ·have:=I.base.tups b xs q;rw[aN (ne this (by intro z;cases z))];exact this
 ·have:=I.base.frzs b u v q;have nb:b≠d:=λz=>n0 u v (by rw[<-z];exact q);rw[aN nb];exact this
 ·obtain⟨m,z⟩:=I.base.tbls b ps q;exact#[m,by rw[aN (ne z (by intro z;cases z))];exact z]
 ·rw[aN (nn I.free)];exact I.free
 ·rw[aN (nn (I.freeC x c q))];exact I.freeC x c q
 ·obtain⟨a1,a2,a3⟩:=I.pin p hp;exact#[a1,by rw[aN (nn a2)];exact a2,a3]
 ·by_cases hb:b=d
  ·subst hb;rw[aP]at q;cases q;exact st (show bO X.prog X.w H s.heap b (.frz o u)from I.hok b _ e).2
  ·rw[aN hb]at q;exact st (I.hok b u q)
inductive aUp(t:TE)(σ:St)(H:Hp)(Q:VK):Prop
 |mk (d u:_) (q0_:Fzb u) (q1_:H d=some u) (q2_:∀ob,t σ (upd H d (.frz ob u)) λv H1=>H1 d=some (.frz ob u)/\Q v (upd H1 d u)):aUp t σ H Q
def aZ9(t:TE):TE:=λσ H Q=>aUp t σ H Q
def aOx{e:Expr}(h:PE X e t):PE X e (aZ9 t):=by
 intro pins s σ H Q I #[d,u,fu,e0,q];have n0:∀o u,X.H₀ d≠some (.frz o u):=λo u z=>by
  have:=I.base.frzs d o u z;rw[this]at e0;cases e0;exact fu
 obtain⟨ob,ho⟩:∃ob,s.heap.get? d=some ob:=by
  have:=I.hok d u e0;cases u<;>first|exact fu.elim|skip
  ·obtain⟨_,_,_,_,o,_,_,g,_⟩:=(show bO X.prog X.w H s.heap d (.dK _)from this);exact#[o,g]
  ·exact this.2.1
 exact thn (h pins s σ _ _ (I.freezeU fu e0 ho) (q ob)) λv s1 ⟨x,H1,I1,r1,e1,q1⟩=>#[x,_,I1.thawU fu n0 e1,r1,q1]
end
def Itw(d:Addr)(o:Obj)(u:HO)(vs:List V):It:=#[λi H=>H d=some (.frz o u)/\i<vs.length,λi H x H'=>H'=H/\vs[i]? =some x,λi H=>H d=some (.frz o u)/\i=vs.length]
def KV.vals{κ:Type}{kvs:List (κ×V)}{ws:List (κ×Value)}(h:KV kvs ws):Vals (kvs.map (·.2)) (ws.map (·.2)):=by
 induction h with
 |nil=>exact .nil
 |cons r _ ih=>exact .cons r.2 ih
def aK9{P:Program}{w:World}{K:Ad}{tg:Expr}{d it:Addr}{o:Obj}{u:HO}{es:Array DictEntry}{ep:Nat}(hx:o.ExactDict)(hd:o.data=.dict es ep)(hv:Vals vs (es.toList.map (·.val))):
  Turn P w K tg (Itw d o u vs) [it] it (λi h=>h.IsValIter it d i es.size ep) where
 mem:=by simp
 obj:=λi h st b hb=>by
  have e:b=it:=by simpa using hb
  subst e;obtain⟨o,e,c,d⟩:=st;exact#[o,e,λv z=>by rw[d]at z;cases z]
 keep:=λi h h' st k=>st.at λo e=>k it (by simp) o e
 item:=by
  intro X hP hw hK hc i pins s σ H E I hf st hg;subst hP hw hK;obtain⟨e,hi⟩:=hg;obtain⟨g,_⟩:=(show bO X.prog X.w H s.heap d (.frz o u)from I.hok d _ e);obtain⟨f0,f1,f2,f3,f4,f5⟩:=hf it (by simp);have hl:vs.length=es.size:=by rw[Vals.length hv,Ab,As]
  rw[hl]at hi;have hy:(es.toList.map (·.val))[i]? =some es[i].val:=by simp[hi]
  have hk:vs[i]? =some (vs[i]'(by rw[hl];exact hi)):=Ag _;obtain⟨y,hy',rx⟩:=Vals.get hv hk;rw[hy]at hy';cases hy';refine aK4 st #[o,g,hx,hd] hi λh' st' sb=>?_;have I1:Inv X pins σ H {s with heap:=h'}:=I.turned (t':=s.toks) (λb o hb e=>(sb.2 b hb).trans e) f0 f1 f3 f4 f5;obtain⟨o',e',c,d'⟩:=id st';exact#[_,rfl,aI5 (s:={s with heap:=h'}) e' c d' ⋯ #[_,H,I1,rx,#[rfl,hk],st',λb hb=>(hf b hb).1]]
 done:=by
  intro X hP hw hK hc i pins s σ H E I hf st hg;subst hP hw hK;obtain⟨e,hi⟩:=hg;obtain⟨g,_⟩:=(show bO X.prog X.w H s.heap d (.frz o u)from I.hok d _ e);obtain⟨f0,f1,f2,f3,f4,f5⟩:=hf it (by simp);have hl:vs.length=es.size:=by rw[Vals.length hv,Ab,As]
  rw[hl]at hi;subst hi;exact aMk #v[58] st #[o,g,hx,hd] λh' eb=>#[rfl,I.turned (t':=s.toks) (λb o hb e=>eb b o hb e) f0 f1 f3 f4 f5]
 self:=λ_ _ _ _ _ st h=>wpAny_pyIter_valiter st h
def aH8{prog:Program}{w:World}{K:Type} [DecidableEq K]{knd:KeyKind prog w K}{es:List DictEntry}{ws:List (K×Value)}(h:Pairs knd es ws):es.map (·.val)=ws.map (·.2):=by
 induction h with
 |nil=>rfl
 |cons _ e _ ih=>rw[Ba,Ba,e,ih]
def Dct(P:Program)(w:World)(d:Addr)(u:HO)(vs:List V):Prop:=(∃kvs,u=.dK kvs/\vs=kvs.map (·.2))∨∃xs:#v[13],u=.ext (dY P w d xs)/\Vals vs (xs.map (·.2.2))
def Dct.raw{P:Program}{w:World}{H:Hp}{h:Heap}{d:Addr}{o:Obj}{u:HO}(c:Dct P w d u vs)(x:bO P w H h d (.frz o u)):h.get? d=some o/\(d==sysModules)=false/\o.ExactDict/\∃es ep,o.data=.dict es ep/\Vals vs (es.toList.map (·.val)):=by
 obtain⟨g,x⟩:=x;rcases c with ⟨kvs,rfl,rfl⟩|⟨xs,rfl,hv⟩
 ·obtain⟨_,lo,ws,r,o',es,ep,g',x1,x2,_,x3,_⟩:=x;rw[g]at g';cases g';refine#[g,lo,x1,es,ep,x2,?_];rw[aH8 x3];exact KV.vals r
 ·obtain⟨⟨lo,o',es,ep,g',x1,x2,x3,_⟩,_⟩:=x;rw[g]at g';cases g';refine#[g,lo,x1,es,ep,x2,?_];rw[x3,Au];exact hv
def aYo(P:Program)(w:World)(te:TE):TI:=λσ H R=>te σ H λv H1=>∃d ob u vs,v=.ref d/\H1 d=some (.frz ob u)/\Dct P w d u vs/\R (Itw d ob u vs) H1
def aRn(ho:PE X o te)(hbase:attributeBase o "values" X.env (eval o X.env)=eval o X.env:=by rfl)(hline:EL apos cpos:=by rfl):
  PI X tg (.Call (.Attribute o "values" apos) [] [] cpos) (aYo X.prog X.w te):=by
 intro pins s σ H R I h;refine wpAny_Call_method0_late hbase hline (thn (ho pins s σ H _ I h) λv s1 ⟨x,H1,I1,r1,d,ob,u,vs,ex,e,c,q⟩=>?_);subst ex;obtain rfl:v=Ao d:=r1;obtain⟨h1,lo,h2,es,ep,h3,hv⟩:=c.raw (I1.hok d _ e);refine#["dict","dict.values",PySem.F.plainAttrs_dict,Nn,PySem.F.type_dict_values,#[ob,h1,h2.1],λa e2=>by cases e2;exact#[ob,h1,h2.2.1],Pl rfl (PySem.evalArgs_none (Bl Nn #[ob,h1,h2.1] PySem.F.entry_dict_values ?_ (PySem.F.args_dict_values_1 _)))];refine Aa ?_;unfold Wx;refine Aa (Hl #[ob,h1,h2.1] ?_);show wpAny _ _ (pure d) _ _ s1;refine Ac ?_;show wpAny _ _ (Hv d>>=_) _ _ s1;unfold Hv;rw[if_neg (by rw[lo];exact An)];refine Aa (Ac (Aa (Bp (Ac #[_,rfl,?_]))));refine aLi (es:=es) (ep:=ep) #[_,Ap _ rfl,rfl,rfl] #[ob,Ae _ h1,h2,h3] ?_;have le:s1.heap.objs.size<=(s1.heap.push {cls:=.type "dict_values",data:=.fields (List.toArray [.ref d])}).objs.size:=by rw[Ck];exact Gd _
 refine#[_,[_],_,Itw d ob u vs,_,rfl,?_,aK9 h2 h3 hv,?_,λb hb=>?_,q]
 ·exact I1.kept (t':=s1.toks) λb u q=>Ae _ (Ae _ q)
 ·exact#[_,Ap _ rfl,rfl,rfl]
 ·rw[List.mem_singleton.mp hb];exact I1.fpOk le (I1.hok.fresh le)
def frO(P:Program)(w:World)(d:Addr)(ob:Obj)(hu:HO)(us:List U):Opq:=⟨λW B H v=>v=.ref d/\¬B d/\H d=some (.frz ob hu)/\∃vs,Dct P w d hu vs/\DUs W B H us vs,
 λk ⟨e,n,h,vs,c,ds⟩=>#[e,(k _ _ n h).1,(k _ _ n h).2,vs,c,DUs.mono k us ds],λk ⟨e,n,h,vs,c,ds⟩=>#[e,n,h,vs,c,DUs.wm k us ds]⟩
def aZc(P:Program)(w:World)(F:TV):TVa:=λρ R=>F ρ λs=>∃d ob hu us,s=.sh (.op (frO P w d ob hu us))/\R us
def aJb{o tg:Expr}{apos cpos:Pos}{F:TV}(hP:X.prog=P)(hw:X.w=w)(h:VE X o F)(hbase:attributeBase o "values" X.env (eval o X.env)=eval o X.env:=by rfl)(hline:EL apos cpos:=by rfl):VI X tg (.Call (.Attribute o "values" apos) [] [] cpos) (aZc P w F):=by
 subst hP hw;obtain⟨_,p,f⟩:=h;refine#[_,aRn p hbase hline,λ{W B ρ σ H R Q} e h q=>f e h λs v H1 h1 w r=>?_];obtain⟨d,ob,hu,us,rfl,h2⟩:=h1;obtain⟨rfl,nb,hd,vs,c,ds⟩:=r;refine#[d,ob,hu,vs,rfl,hd,c,q us _ _ h2 w #[λ{B2 H2} t=>#[(t d _ nb hd).2,ds.length],λ{B2 H2} i t h=>#[(t d _ nb hd).2,by rw[<-ds.length];exact h],λ{B2 H2} i{x H' u} e t h y=>?_]];obtain⟨rfl,y⟩:=y;obtain⟨x',g1,g2⟩:=ds.get h;rw[y]at g1;cases g1;exact#[e.refl,DU.mono t u g2]
section
variable {W W' B B':Addr->Prop}{H H':Hp}
mutual
theorem DU.ttF(k:#v[u])(e:EB W' B' H'):∀(u:U){v:V},u.tt->DU W B H u v->DU W' B' H' u v
 |.v _,_,_,h=>h
 |.tp l,_,t,⟨p,xs,e1,_,hp,ds⟩=>⟨p,xs,e1,λz=>by
  obtain⟨o,h,m⟩:=e.bl p z;rw[k p xs hp]at h;cases h;exact m,k p xs hp,DUs.ttF k e l t ds⟩
theorem DUs.ttF(k:#v[u])(e:EB W' B' H'):∀(l:List U){xs:List V},U.tts l->DUs W B H l xs->DUs W' B' H' l xs
 | [],_,_,h=>h
 |u::l,_,⟨t,t'⟩,⟨x,r,e1,h,h'⟩=>#[x,r,e1,DU.ttF k e u t h,DUs.ttF k e l t' h']
end
end
def aAf(ρ' ρ:EV):Prop:=ρ'.length=ρ.length/\∀(i:Nat)(s:Sl),ρ'[i]? =some s->s=.no∨∃u,s=.sh u/\u.tt/\ρ[i]? =some (.sh u)
def aAf.nil:aAf [] []:=#[rfl,λi s h=>by simp at h]
def aAf.no{s:Sl}(h:aAf ρ' ρ):aAf (.no::ρ') (s::ρ):=⟨congrArg (·+1) h.1,λi s' e=>by
 cases i with
 |zero=>cases e;exact .inl rfl
 |succ i=>exact h.2 i s' e⟩
def aAf.sh(t:u.tt)(h:aAf ρ' ρ):aAf (.sh u::ρ') (.sh u::ρ):=⟨congrArg (·+1) h.1,λi s' e=>by
 cases i with
 |zero=>cases e;exact .inr #[u,rfl,t,rfl]
 |succ i=>exact h.2 i s' e⟩
def aN9{P:Program}{w:World}{F:TV}{W B:Addr->Prop}{ρ ρ':EV}{σ:St}{H:Hp}{R:Sl->Prop}{Q:VK}{j:Nat}{d:Addr}{hu:HO}{us:List U}(f:VT t F)(e:#v[41])(hj:σ[j]? =some (some (V.ref d)))(fu:Fzb hu)(hd:H d=some hu)(nw:¬W d)(c:Dct P w d hu vs)(ds:DUs W B H us vs)(tu:U.tts us)(ts:aAf ρ' ρ)
  (h:∀ob,F (ρ'.set j (.sh (.op (frO P w d ob hu us)))) λs=>s.tt/\R s) (q:#v[31]):aZ9 t σ H Q:=by
 refine#[d,hu,fu,hd,λob=>?_];have nt:∀{xs},hu≠.tup xs:=λz=>by rw[z]at fu;exact fu
 have tk:∀b xs,H b=some (.tup xs)->upd H d (.frz ob hu) b=some (.tup xs):=λb xs g=>(aN (λz:b=d=>by rw[z,hd]at g;cases g;exact fu)).trans g;have eb:EB W (λb=>B b/\b≠d) (upd H d (.frz ob hu)):=#[λp hp=>let⟨o,g,m⟩:=e.eb.bl p hp.1;#[o,(aN hp.2).trans g,m],λp hp=>#[e.eb.wb p hp,λz=>nw (z▸hp)],λp hp=>let⟨a,b,c,g⟩:=e.eb.wo p hp;#[a,b,c,(aN λz:p=d=>nw (z▸hp)).trans g]];have e':EE W (λb=>B b/\b≠d) (upd H d (.frz ob hu)) (ρ'.set j (.sh (.op (frO P w d ob hu us)))) σ:=by
  refine#[eb,by rw[Bs,ts.1,e.len],λi u g=>?_,λi s o g hs=>?_]
  ·rcases bT g with ⟨rfl,g,_⟩|⟨ne,g⟩
   ·cases g;exact#[_,hj,rfl,λz=>z.2 rfl,aP,vs,c,DUs.ttF tk eb us tu ds]
   ·rcases ts.2 i _ g with z|⟨u',z,tt,g⟩
    ·cases z
    ·cases z;obtain⟨v,g1,g2⟩:=e.sh i _ g;exact#[v,g1,DU.ttF tk eb _ tt g2]
  ·rcases bT g with ⟨rfl,rfl,_⟩|⟨ne,g⟩
   ·cases hs
   ·rcases ts.2 i _ g with rfl|⟨u',rfl,_⟩<;>cases hs
 refine f e' (h ob) λs v H1 ⟨st,hR⟩ wf r=>#[wf.fr d _ nw aP,q s v _ hR ?_ ?_]
 all_goals
  have h1:=wf.fr d _ nw (aP (H:=H) (a:=d) (o:=HO.frz ob hu));have fw:Fw W H (upd H1 d hu):=⟨λb o nW g=>by
   by_cases z:b=d
   ·subst z;rw[hd]at g;cases g;exact aP
   ·exact(aN z).trans (wf.fr b o nW ((aN z).trans g)),λp hp=>let⟨a,b,c,g⟩:=wf.wo p hp;#[a,b,c,(aN λz:p=d=>nw (z▸hp)).trans g]⟩
 ·exact fw
 ·have eb2:=e.eb.to fw;have tk2:∀b xs,H1 b=some (.tup xs)->upd H1 d hu b=some (.tup xs):=λb xs g=>(aN (λz:b=d=>by rw[z,h1]at g;cases g)).trans g;match s,st,r with
  |.sh u,st,r=>exact DU.ttF tk2 eb2 u st r
  |.ow l,st,⟨p,xs,e1,n1,g2,g3⟩=>
   have pd:p≠d:=λz=>by rw[z,aP]at n1;cases n1
   rw[aN pd]at n1;exact#[p,xs,e1,n1,(aN pd).trans g2,DUs.ttF tk2 #[λq hq=>hq.elim (eb2.bl q) λz=>#[.lst xs,by rw[z];exact(aN pd).trans g2,trivial],λq hq=> .inl (eb2.wb q hq),eb2.wo] l st g3]
def bB7(P:Program)(w:World)(j:Nat)(F:TV):TV:=λρ R=>∃f n,(ρ[j]? =some (.oo (ndO f n))∨ρ[j]? =some (.bo (ndO f n)))/\(∀i u,f i=some u->u.tt)/\∃ρ',aAf ρ' ρ/\∀d ob hu us,(∀u∈us,∃i,f i=some u)->(∀i u,f i=some u->u∈us)->us.length<=n->F (ρ'.set j (.sh (.op (frO P w d ob hu us)))) λs=>s.tt/\R s
def bA5(P:Program)(w:World)(j:Nat)(F:TV):TV:=λρ R=>∃s kvs,ρ[j]? =some s/\aLt P w s kvs/\U.tts (kvs.map (·.2))/\∃ρ',aAf ρ' ρ/\∀d ob hu,F (ρ'.set j (.sh (.op (frO P w d ob hu (kvs.map (·.2)))))) λs=>s.tt/\R s
def aF3(nd:(kvs.map (·.1)).Nodup){p:Key×V}(h:p∈kvs):lJ kvs p.1=some p.2:=by
 unfold lJ;induction kvs with
 |nil=>cases h
 |cons q r ih=>
  rw[Ba,Jd]at nd;rw[Gr];rcases List.mem_cons.mp h with rfl|h
  ·rw[decide_eq_true rfl];rfl
  ·rw[decide_eq_false λe=>nd.1 (by rw[e];exact List.mem_map.mpr #[p,h,rfl])];exact ih nd.2 h
def aQa{W B:Addr->Prop}{H:Hp}{f:Int->Option U}(hk:NdK kvs)(r:NdR W B H f kvs):∃us,DUs W B H us (kvs.map (·.2))/\(∀u∈us,∃i,f i=some u)/\(∀i u,f i=some u->u∈us):=by
 have key:∀ps:List (Key×V),(∀p∈ps,p∈kvs)->∃us:List U,DUs W B H us (ps.map (·.2))/\(∀u∈us,∃i,f i=some u)/\∀(i:Int)(u:U),(∃p∈ps,p.1=.inl i)->f i=some u->u∈us:=by
  intro ps;induction ps with
  |nil=>exactλ_=>#[[],rfl,nofun,λ_ _ ⟨_,h,_⟩=>nomatch h]
  |cons p ps ih=>
   intro hs;obtain⟨us,h1,h2,h3⟩:=ih λq hq=>hs q (Af _ hq);have hp:=hs p Ah;obtain⟨i,ei⟩:=hk.2 p hp;have ev:=aF3 hk.1 hp;rw[ei]at ev;rcases r i with ⟨_,z⟩|⟨u,v,a1,a2,a3⟩
   ·rw[ev]at z;cases z
   ·rw[ev]at a2;cases a2;refine#[u::us,#[_,_,rfl,a3,h1],λx hx=>(List.mem_cons.mp hx).elim (λe=>#[i,by rw[e];exact a1]) (h2 x),λi' u' ⟨q,hq,eq⟩ hf=>?_];rcases List.mem_cons.mp hq with rfl|hq
    ·rw[ei]at eq;cases eq;rw[a1]at hf;cases hf;exact Ah
    ·exact Af _ (h3 i' u' #[q,hq,eq] hf)
 obtain⟨us,h1,h2,h3⟩:=key kvs λ_ h=>h;refine#[us,h1,h2,λi u hf=>h3 i u ?_ hf];rcases r i with ⟨z,_⟩|⟨_,v,_,a2,_⟩
 ·rw[hf]at z;cases z
 ·unfold lJ at a2;obtain⟨p,hp,_⟩:=Option.map_eq_some_iff.mp a2;exact#[p,Oo hp,by simpa using Tn hp]
def aWz{e:Expr}{F:TV}(j:Nat)(he:VE X e F):VE X e (bB7 P w j F):=by
 obtain⟨_,p,f⟩:=he;refine#[_,aOx p,λ{W B ρ σ H R Q} e h q=>?_];obtain⟨g,n,hj,tt,ρ',ts,h⟩:=h;obtain⟨d,S,s1,nw,sS,kvs,hd,hl,r⟩:=hj.elim (λz=>e.hd j _ _ z rfl) λz=>e.hd j _ _ z rfl;obtain⟨us,h1,h2,h3⟩:=aQa hl.2 r;have tts:∀l:List U,(∀u∈l,U.tt u)->U.tts l:=λl=>by
  induction l with
  |nil=>exactλ_=>trivial
  |cons u l ih=>exactλh=>#[h u Ah,ih λx hx=>h x (Af _ hx)]
 exact aN9 (hu:=.dK kvs) f e s1 Fu hd (nw d ((sS d).mpr rfl)) (.inl #[kvs,rfl,rfl]) h1 (tts us λu hu=>let⟨i,hi⟩:=h2 u hu;tt i u hi) ts (λob=>h d ob _ us h2 h3 (by rw[h1.length,Ab];exact hl.1)) q
def aWt{e:Expr}{F:TV}(j:Nat)(he:VE X e F):VE X e (bA5 P w j F):=by
 obtain⟨_,p,f⟩:=he;refine#[_,aOx p,λ{W B ρ σ H R Q} e h q=>?_];obtain⟨s,kvs,hj,hp,tt,ρ',ts,h⟩:=h;obtain⟨d,xs,s1,nw,hd,r⟩:∃d xs,σ[j]? =some (some (V.ref d))/\¬W d/\H d=some (.ext (dY P w d xs))/\PdR W B H kvs xs:=by
  rcases hp with rfl|rfl|rfl
  ·obtain⟨d,S,s1,nw,sS,xs,hd,r⟩:=e.hd j _ _ hj rfl;exact#[d,xs,s1,nw d ((sS d).mpr rfl),hd,r]
  ·obtain⟨d,S,s1,nw,sS,xs,hd,r⟩:=e.hd j _ _ hj rfl;exact#[d,xs,s1,nw d ((sS d).mpr rfl),hd,r]
  ·obtain⟨v,s1,d,S,rfl,nS,sS,xs,hd,r⟩:=e.sh j _ hj;exact#[d,xs,s1,λz=>nS d ((sS d).mpr rfl) (e.eb.wb d z),hd,r]
 obtain⟨vs,rv,dv⟩:=r.vals;exact aN9 (hu:=.ext (dY P w d xs)) f e s1 Fu hd nw (.inr #[xs,rfl,rv]) dv tt ts (λob=>h d ob _) q
def vNg(F G:TV):TV:=λρ R=>F ρ λs=>∃f n,(s=.bo (ndO f n)∨s=.sh (.op (ndO f n).fz))/\G ρ λs'=>∃i u,s'.rd=.n i/\f i=some u/\R (.sh u)
def aWh(neg:Bool)(G F:TV):TV:=λρ R=>G ρ λs'=>F ρ λs=>∃f n i,(s=.bo (ndO f n)∨s=.sh (.op (ndO f n).fz))/\s'.rd=.n i/\R (.sh (.b (if neg then !(f i).isSome else(f i).isSome)))
def aSm(W B:Addr->Prop)(H:Hp)(f:Int->Option U)(v:V):Prop:=∃d kvs,v=.ref d/\H d=some (.dK kvs)/\NdR W B H f kvs
def RO.nd{W B:Addr->Prop}{H H':Hp}{f:Int->Option U}{s:Sl}(hs:s=.bo (ndO f n)∨s=.sh (.op (ndO f n).fz))(r:RO W B H H' s v):aSm W B H' f v:=by
 rcases hs with rfl|rfl
 ·obtain⟨d,S,rfl,_,_,kvs,hd,_,r⟩:=r;exact#[d,kvs,rfl,hd,r]
 ·obtain⟨d,S,rfl,_,_,kvs,hd,_,r⟩:=r;exact#[d,kvs,rfl,hd,r]
def aSm.mono{W B:Addr->Prop}{H H':Hp}{f:Int->Option U}{s:Sl}(hs:s=.bo (ndO f n)∨s=.sh (.op (ndO f n).fz))(e:EB W B H)(w:Fw W H H')(r:RO W B H0 H s v):aSm W B H' f v:=by
 rcases hs with rfl|rfl
 ·obtain⟨d,S,rfl,nw,φ⟩:=r;obtain⟨_,kvs,hd,_,r⟩:=(ndO f n).mono (e.keep w) (λb hb=>let⟨y,hy,_⟩:=(ndO f n).th φ b hb;(w.fr b y (nw b hb) hy).trans hy.symm) φ;exact#[d,kvs,rfl,hd,r]
 ·exact RO.nd (.inr rfl) (show RO W B H H' (.sh (.op (ndO f n).fz)) v from DU.mono (e.keep w) _ r)
def aOp{o i:Expr}{pos:Pos}{F G:TV}(hr:eY k X.A)(ho:VE X o F)(hi:VE X i G)(hs:aXp i:=by exactλ_ _=>rfl):VE X (.Subscript o i pos) (vNg F G):=by
 obtain⟨_,p,f⟩:=ho;obtain⟨_,p1,f1⟩:=hi;refine#[_,aRd (by have:=hr.un;lia) p p1 hs,λ{W B ρ σ H R Q} e h q=>f e h λs v H1 h1 w1 r1=>?_];have e1:=e.to w1;obtain⟨g,n,hs,h1⟩:=h1;refine f1 e1 h1 λs' v' H2 h2 w2 r2=>?_;obtain⟨i,u,ei,hu,h2⟩:=h2;obtain⟨d,kvs,rfl,hd,r⟩:=aSm.mono hs e1.eb w2 r1;have d2:=r2.db e1.eb;rw[ei]at d2;obtain rfl:=d2.int;rcases r i with ⟨z,_⟩|⟨u',v,a1,a2,a3⟩
 ·rw[hu]at z;cases z
 ·rw[hu]at a1;cases a1;exact#[d,v,rfl,a2▸aBl.k (k:=.inl i) hd,q _ _ _ h2 (w1.trans w2) a3]
def aVw{ty td:TE}{F G:TV}(hi:VT ty G)(ho:VT td F):VT (bB3 ty td) (aWh false G F)/\VT (aJs ty td) (aWh true G F):=by
 constructor
 all_goals
  intro W B ρ σ H R Q e h q;refine hi e h λs' v' H1 h1 w1 r1=>?_;have e1:=e.to w1;refine ho e1 h1 λs v H2 h2 w2 r2=>?_;obtain⟨f,n,i,hs,ei,h2⟩:=h2;obtain⟨d,kvs,rfl,hd,r⟩:=r2.nd hs;have d2:=(r1.db e.eb).to e1.eb w2;rw[ei]at d2;obtain rfl:=d2.int;refine#[d,_,rfl,aBl.k (k:=.inl i) hd,q _ _ _ h2 (w1.trans w2) ?_];rcases r i with ⟨a1,a2⟩|⟨u',v,a1,a2,_⟩<;>rw[a1,a2]<;>exact#[rfl,rfl]
def aYd{F:TV}(h:VT t F):VTc (tB t) (mV F):=λe h1 q=>h e h1 λs v H1 h2 f r=>by
 have d:=r.db e.eb;revert h2 d;generalize s.rd=u;intro h2 d;split at h2
 ·exact#[_,d.fl.1,q _ _ h2 f]
 ·exact h2.elim
def aVk{a b:Expr}{pos:Pos}{F G:TV}(hr:eY k X.A)(ha:VE X a G)(hb:VE X b F)(hm:behindInMarks .NotIn b=false:=by first|exact aGg _ ⋯ ⋯|rfl):VC X (.Compare a [.NotIn] [b] pos) (mV (aWh true G F)):=by
 obtain⟨_,p,f⟩:=ha;obtain⟨_,p',f'⟩:=hb;exact#[_,aGy (aKi (by have:=hr.un;lia) p p') hm,aYd (aVw f f').2]
def bAi(G:TVa):TV:=λρ R=>G ρ λus=>∃l m,us=[.ls l,.ls m]/\l.length<=m.length/\R (.ow (vG l m))
def aSg{W B:Addr->Prop}{H:Hp}:∀{m:List U}{xs ys:List V}{as:List Addr},l.length<=m.length->as.length=xs.length->DUs W B H l xs->DUs W B H m ys->(∀(j:Nat)(a:Addr)(x y:V),as[j]? =some a->xs[j]? =some x->ys[j]? =some y->¬B a/\H a=some (.tup [x,y]))->DUs W B H (vG l m) (as.map V.ref):=by
 induction l with
 |nil=>
  intro m xs ys as _ la d _ _;obtain rfl:xs=[]:=d;rw[List.length_eq_zero_iff.mp la];rfl
 |cons u l ih=>
  intro m xs ys as hl la d1 d2 h;cases m with
  |nil=>exact absurd hl (by simp)
  |cons v m=>
   obtain⟨x,xs,rfl,d1,t1⟩:=d1;obtain⟨y,ys,rfl,d2,t2⟩:=d2;cases as with
   |nil=>cases la
   |cons a as=>
    obtain⟨nb,ha⟩:=h 0 a x y rfl rfl rfl;exact#[_,_,rfl,#[a,_,rfl,nb,ha,x,_,rfl,d1,y,_,rfl,d2,rfl],ih (Nat.le_of_succ_le_succ hl) (Jb la) t1 t2 λj b x y h1 h2 h3=>h (j+1) b x y h1 h2 h3]
def aRj{a b:Expr}{p p2 pos pos2:Pos}{G:TVa}(hc:X.calm=true)(hm:X.mg "list"=none)(hm2:X.mg "zip"=none)(ha:VB X [a,b] G)(hg:Gl X "list":=by rfl)(hg2:Gl X "zip":=by rfl)(hs:#v[h]:=by rfl)(hs2:#v[I]:=by rfl)
  (he:#v[67]:=by rfl):VE X (.Call (.Name "list" p) [.Call (.Name "zip" p2) [a,b] [] pos2] [] pos) (bAi G):=by
 obtain⟨_,p,f⟩:=ha;refine#[_,aIf hc hg hm hg2 hm2 p hs hs2 he,λ{W B ρ σ H R Q} e h q=>f e h λus vs H1 ⟨l,m,eu,hl,h2⟩ w d=>?_];subst eu;obtain⟨x,y,rfl,d1,d2⟩:=DBs.two d;have e1:=e.to w;obtain⟨a,xs,rfl,_,ha,da⟩:=d1.ls e1.eb;obtain⟨b,ys,rfl,_,hb,db⟩:=d2.ls e1.eb;refine#[a,b,xs,ys,rfl,SqL.of ha,SqL.of hb,by rw[<-da.length, <-db.length];exact hl,λk H' as z=>?_];have sm:∀c o,H1 c=some o->H' c=some o:=λc o g=>(z.same c (aR g z.lf) λhm=>by rw[(z.fresh c hm).1]at g;cases g).trans g;have fw:Fw W H1 H':=e1.eb.same sm;have k1:∀c o,¬B c->H1 c=some o->¬(B c∨c=k)/\H' c=some o:=λc o n g=>#[λy=>y.elim n (aR g z.lf),sm c o g];refine q _ _ _ h2 (w.trans fw) (RO.back (s:=.ow _) w #[k,_,rfl,z.lf,z.lst,aSg hl z.len (DUs.mono k1 _ da) (DUs.mono k1 _ db) λj c x y h1 h2 h3=>#[λy=>?_,z.prs j c x y h1 h2 h3]]);obtain⟨n1,n2⟩:=z.fresh c (Ai h1);exact y.elim (e1.eb.nw n1) n2
def aLx:dO X (.builtin "len") (λys H Q=>∃a xs,ys=[V.ref a]/\H a=some (.ext (dY X.prog X.w a xs))/\xs.length<=10000/\Q (.int xs.length) H):=by
 intro pins s σ H xs us Q I r h;obtain⟨a,ps,rfl,e,hl,q⟩:=h;obtain⟨u,rfl,ru⟩:=vals1 r;obtain rfl:u=Ao a:=ru;obtain⟨⟨lo,o,es,ep,h1,h2,h3,h4,h5⟩,_,_⟩:=(show bO X.prog X.w H s.heap a (.ext (dY X.prog X.w a ps))from I.hok a _ e);have el:es.size=ps.length:=by rw[<-As,h4,Ab]
 have ty:s.TypeIs (.ref a) "dict":=#[o,h1,h2.1];refine call_len_slot (n:=(es.size:Int)) ty Pb (λQ' q'=>Bl Pb ty PySem.F.entry_dict_len ?_ (PySem.F.args_dict_len_1 _)) ∅ ∅ #[.int es.size,H,I.tok _,#[_,rfl],by rw[el];exact q];unfold Builtin.«dict.__len__» Mb;refine Aa (Aa (Hl ty (Ac ?_)));show wpAny _ _ (dictSize a>>=λn=>Ma a>>=λm=>retInt ((n:Int)+(m:Int))) _ _ s;unfold dictSize Ma;refine Aa (Aa (Ds h1 h3 (Ac ?_)));rw[if_neg (by rw[lo];exact An)];refine Aa (Ac ?_);rw[show((es.size:Int)+((0:Nat):Int))=es.size by lia];exact(show wpAny _ _ (do ret (<-mkInt (es.size:Int))) _ _ s from Aa (wpAny_mkInt (Ac #[_,rfl,q'])))
def aHe(hc:X.calm=true):dO X (.type "list") (λys H Q=>∃(a:Addr)(xs:#v[13]),ys=[.ref a]/\H a=some (.ext (dY X.prog X.w a xs))/\xs.length<=10000/\∀l,H l=none->Q (.ref l) (upd H l (.lst (xs.map λx=>V.ref x.2.1)))):=by
 intro pins s σ H ys us Q I rs h;obtain⟨a,xs,rfl,ha,hl,q⟩:=h;obtain⟨u,rfl,ru⟩:=vals1 rs;cases ru;obtain⟨⟨lo,o,es,ep,h1,h2,h3,h4,h5⟩,_,_⟩:=(show bO X.prog X.w H s.heap a (.ext (dY X.prog X.w a xs))from I.hok a _ ha);have el:es.size=xs.length:=by rw[<-As,h4,Ab]
 refine PySem.W.kdl_call (aSc (es:=es) (ep:=ep) lo) #v[58] #[o,h1,h2,h3] (by rw[el,Dy];lia) λh' tk acc c hk hg hacc=>?_;have ea:acc=(xs.map λx=>Ao x.2.1).toArray:=by
  apply Xb;refine Jy λj=>?_;rw[Ay];cases hj:xs[j]? with
  |none=>
   have:xs.length<=j:=List.getElem?_eq_none_iff.mp hj;exact Er (by rw[As,hacc.1,el];exact this)
  |some x=>
   have hlt:j<acc.size:=by rw[hacc.1,el];exact(List.getElem?_eq_some_iff.mp hj).1
   obtain⟨e,e1,e2⟩:=hacc.2 j _ (Bm hlt);have e3:es.toList[j]? =some e:=by rw[Cj];exact e1
   rw[h4,Ay,hj]at e3;cases e3;rw[Cj,Bm hlt,e2];rfl
 subst ea;refine#[.ref #v[0],_,I.laid (t':=tk) (o:=.lst (xs.map λx=>V.ref x.2.1)) hk (Aj _) #[?_,_,c,?_,hg],rfl,q _ #v[G]]
 ·rw[Ab,Dy]
  lia
 ·have:∀l:#v[13],Vals (l.map λx=>V.ref x.2.1) (l.map λx=>Ao x.2.1):=λl=>by
   induction l with
   |nil=>exact .nil
   |cons x xs ih=>exact .cons rfl ih
  exact this xs
def bAx(P:Program)(w:World)(a:TV):TV:=λρ R=>a ρ λs=>∃kvs,aLt P w s kvs/\kvs.length<=10000/\R (.sh (.n kvs.length))
def aRb{o:Expr}{p pos:Pos}{F:TV}(hP:X.prog=P)(hw:X.w=w)(hm:X.mg "len"=none)(ha:VE X o F)(hg:Gl X "len":=by rfl)(hs:SE X o []:=by rfl)(hpl:BT X pos []:=by rfl):VE X (.Call (.Name "len" p) [o] [] pos) (bAx P w F):=by
 subst hP hw;obtain⟨_,p,f⟩:=ha;refine#[_,iH aLx hg hm Br (bZ p dN hs) ⋯ ⋯ hs hpl,λ{W B ρ σ H R Q} e h q=>f e h λs v H1 h1 w1 r1=>?_];obtain⟨kvs,hs,hl,h2⟩:=h1;obtain⟨a,xs,rfl,g1,g2⟩:=r1.pd hs;exact#[a,xs,rfl,g1,by rw[g2.len];exact hl,q _ _ _ h2 w1 (by rw[g2.len];exact#[rfl,rfl])]
def aWu(P:Program)(w:World)(a:TV):TV:=λρ R=>a ρ λs=>∃kvs,aLt P w s kvs/\kvs.length<=10000/\R (.ow (kvs.map λp=>tkU p.1))
def PdR.kys{W B:Addr->Prop}{H:Hp}{xs:#v[13]}(h:PdR W B H l xs):DUs W B H (l.map λp=>tkU p.1) (xs.map λx=>V.ref x.2.1):=by
 induction h with
 |nil=>rfl
 |cons d _ _ _ ih=>exact#[_,_,rfl,d,ih]
def aQv{o:Expr}{p pos:Pos}{F:TV}(hP:X.prog=P)(hw:X.w=w)(hc:X.calm=true)(hm:X.mg "list"=none)(ha:VE X o F)(hg:Gl X "list":=by rfl)(hs:SE X o []:=by rfl)(hpl:BT X pos []:=by rfl):VE X (.Call (.Name "list" p) [o] [] pos) (aWu P w F):=by
 subst hP hw;obtain⟨_,p,f⟩:=ha;refine#[_,gO (aHe hc) hg hm Ew (bZ p dN hs) ⋯ ⋯ hs hpl,λ{W B ρ σ H R Q} e h q=>f e h λs v H1 h1 w1 r1=>?_];obtain⟨kvs,hs,hl,h2⟩:=h1;obtain⟨a,xs,rfl,g1,g2⟩:=r1.pd hs;have e1:=e.to w1;refine#[a,xs,rfl,g1,by rw[g2.len];exact hl,λm nm=>?_];have w3:=e1.eb.new (o:=.lst (xs.map λx=>V.ref x.2.1)) nm;refine q (.ow _) _ _ h2 (w1.trans w3) (RO.back (s:=.ow _) w1 #[m,_,rfl,nm,aP,?_]);exact DUs.mono (λb o nb h=>#[λz=>z.elim nb (aR h nm),(e1.eb.keep w3 b o nb h).2]) _ g2.kys
def aU8(a:TV):TV:=λρ R=>a ρ λs=>∃f n,s=.bo (ndO f n)/\∀ks:List Int,ks.Nodup->(∀i,i∈ks↔f i≠none)->R (.sh (.n ks.length))
theorem aE0:∀{kvs:List (Key×V)},(∀p∈kvs,∃i:Int,p.1=.inl i)->∃ks:List Int,kvs.map (·.1)=ks.map λi=>(.inl i:Key)
 | [],_=>#[[],rfl]
 |p::r,h=>by
  obtain⟨i,e⟩:=h p Ah;obtain⟨ks,e2⟩:=aE0 (kvs:=r) λq hq=>h q (Af _ hq);exact#[i::ks,by rw[Ba,Ba,e,e2]]
def aQl{o:Expr}{p pos:Pos}{F:TV}(hm:X.mg "len"=none)(ha:VE X o F)(hg:Gl X "len":=by rfl)(hs:SE X o []:=by rfl)(hpl:BT X pos []:=by rfl):VE X (.Call (.Name "len" p) [o] [] pos) (aU8 F):=by
 obtain⟨_,p,f⟩:=ha;refine#[_,iH aLc hg hm Br (bZ p dN hs) ⋯ ⋯ hs hpl,λ{W B ρ σ H R Q} e h q=>f e h λs v H1 h1 w1 r1=>?_];obtain⟨f,n,rfl,h3⟩:=h1;obtain⟨a,S,rfl,nw,sS,kvs,hd,hl,r⟩:=r1;obtain⟨ks,ek⟩:=aE0 hl.2.2;have nd:=hl.2.1;rw[ek]at nd;have el:kvs.length=ks.length:=by have:=congrArg Eh ek;simpa using this
 refine#[a,kvs,rfl,hd,?_];rw[el];refine q _ _ _ (h3 ks (Mw _ (λa b h e=>h (by rw[e])) nd) λi=>?_) w1 #[rfl,rfl];have mem:i∈ks↔ ∃p∈kvs,p.1=.inl i:=by
  constructor
  ·intro hi;have:(.inl i:Key)∈kvs.map (·.1):=by rw[ek];exact List.mem_map.mpr #[i,hi,rfl]
   exact List.mem_map.mp this
  ·intro hp;have:=List.mem_map.mpr hp;rw[ek]at this;obtain⟨j,hj,e⟩:=List.mem_map.mp this;cases e;exact hj
 rw[mem];constructor
 ·rintro⟨p,hp,e⟩;have ev:=aF3 hl.2.1 hp;rw[e]at ev;rcases r i with ⟨_,z⟩|⟨u,v,a1,_,_⟩
  ·rw[ev]at z;cases z
  ·rw[a1];exact nofun
 ·intro hf;rcases r i with ⟨z,_⟩|⟨_,v,_,a2,_⟩
  ·exact absurd z hf
  ·unfold lJ at a2;obtain⟨p,hp,_⟩:=Option.map_eq_some_iff.mp a2;exact#[p,Oo hp,by simpa using Tn hp]
inductive aMg(x:V)(vs:List V)(H:Hp)(Q:VK):Prop
 |mk (l xs y:_) (i:Int) (k:Nat) (q0_:x=.ref l) (q1_:vs=[.int i,y]) (q2_:H l=some (.lst xs)) (q3_:k<=xs.length) (q4_:(i=k∨(i= -1/\xs=[]))) (q5_:xs.length<sizeLine) (q6_:Q .non (upd H l (.lst (xs.take k++y::xs.drop k)))):aMg x vs H Q
def aYu:V->List V->Hp->VK->Prop:=λx vs H Q=>aMg x vs H Q
def aTb:MtM X "list.insert" aYu:=by
 intro pins s σ H x vs v us Q I rx rv h;obtain⟨l,xs,y,i,k,rfl,rfl,hH,hk,hi,hz,q⟩:=h;cases rx;obtain⟨u,w',rfl,ru,rw'⟩:=vals2 rv;obtain⟨t,rfl⟩:=ru;obtain⟨z,its,n,r,hl,e⟩:=I.lstM hH;have hv:Vals (xs.take k++y::xs.drop k) (its.take k++w'::its.drop k):=Vals.append (Vals.take k r) (Paired.cons rw' (Vals.drop k r));have hlen:(xs.take k++y::xs.drop k).length<=sizeLine:=by
  rw[Al,Am,Eu,Ej]
  lia
 have hz2:its.toArray.size<=sizeLine:=by rw[Ak];lia
 have hfit:¬(!Gh i)=true:=by
  rcases hi with rfl|⟨rfl,_⟩
  ·exact aO8 (k:=k) ∅
  ·decide
 have M:=@Tz l its.toArray n i t w' hfit hz2;refine Lv F.slot_list_insert #[_,e,rfl] F.entry_list_insert (F.args_list_insert_3 _ _ _) M #[e,?_];refine#[.non,_,I.lset (its':=its.take k++w'::its.drop k) hH e ?_ hv hlen,rfl,q];rcases hi with hi|⟨rfl,hx⟩
 ·have hn:¬(i<0):=by lia
  have ht:i.toNat=k:=by lia
  simp only[hn,if_false,Ak,ht];rw[Ob ∅];apply Xb;simp;exact El (by rw[Ej];exact Aj _)
 ·subst hx;obtain rfl:its=[]:=List.length_eq_zero_iff.mp hl.symm;obtain rfl:k=0:=by rw[Kr]at hk;lia
  rfl
def aZb(j y:Nat)(Fi Fa Fb:TV)(G:TVS):TVS:=λE ρ=>∃ls,ρ[j]? =some (.oo (llO ls))/\y<ρ.length/\Fi ρ λs=>∃(i:Int)(n:Nat)(l:List U),s.rd=.n i/\ixN ls.length i=some n/\ls[n]? =some l/\l.length<10000/\Fa (ρ.set y (.br l)) λs=>∃(z:Int)(k:Nat),s.rd=.n z/\k<=l.length/\(z=k∨(z= -1/\l=[]))/\Fb (ρ.set y (.br l)) λs=>s.es λu=>u.tt/\G E ((ρ.set j (.oo (llO (ls.set n (l.take k++u::l.drop k))))).set y .no)
def EO.setNo{W B:Addr->Prop}{H0 H:Hp}{A:#v[96]}{σ:St}(o:#v[A]){i:Nat}:EO W B H0 (λj q=>j≠i/\A j q) (ρ.set i .no) (σ.set i (some v)) H:=by
 refine#[o.eb,o.fw,by rw[Bs,Bs,o.len],λj p h=>o.an j p h.2,λj p h=>o.aw j p h.2,λj j' p h h'=>o.inj j j' p h.2 h'.2,λj u h=>?_,λj s w h hs=>?_,λj s h=>?_]
 ·rcases bT h with ⟨rfl,h,_⟩|⟨ne,h⟩
  ·cases h
  ·obtain⟨v',h1,h2⟩:=o.sh j u h;exact#[v',by rw[Dr (Cg ne)];exact h1,DU.mono EO.kp u h2]
 ·rcases bT h with ⟨rfl,rfl,_⟩|⟨ne,h⟩
  ·cases hs
  ·obtain⟨p,h1,h2⟩:=o.hd j s w h hs;exact#[p,by rw[Dr (Cg ne)];exact h1,w.at_ (w.mono EO.kp (λ_ _=>rfl) h2) (aDi ne)]
 ·rcases bT h with ⟨rfl,rfl,_⟩|⟨ne,h⟩
  ·rfl
  ·exact o.nb j s h
def EE.setBr{W B:Addr->Prop}{H:Hp}{σ:St}{y:Nat}(e:#v[41])(nw:¬W q)(hq:H q=some (.lst vs))(d:DUs W B H l vs):EE W B H (ρ.set y (.br l)) (σ.set y (some (.ref q))):=by
 refine#[e.eb,by rw[Bs,Bs,e.len],λi u h=>?_,λi s w h hs=>?_]
 ·rcases bT h with ⟨rfl,h,_⟩|⟨ne,h⟩
  ·cases h
  ·obtain⟨v',h1,h2⟩:=e.sh i u h;exact#[v',by rw[Dr (Cg ne)];exact h1,h2]
 ·rcases bT h with ⟨rfl,rfl,hl⟩|⟨ne,h⟩
  ·cases hs;exact#[q,(·=q),by rw[Gi (by rw[<-e.len];exact hl)],λb hb=>by rw[hb];exact nw,λ_=>Kj,vs,hq,d]
  ·obtain⟨p,S,h1,h2,h3⟩:=e.hd i s w h hs;exact#[p,S,by rw[Dr (Cg ne)];exact h1,h2,h3]
def aPt{x yn:Str}{i a b:Expr}{p' sp py p2 apos cpos pos pos2:Pos}{rest:List Stmt}{Fi Fa Fb:TV}{G:TVS}(j y:Nat)(hNd:X.N.Nodup)(hi:VE X i Fi)(ha:VE X a Fa)(hb:VE X b Fb)(hG:VSs X rest G)
  (hN:X.N[j]? =some x:=by rfl) (hv:#v[80]:=by trivial) (hd:ND x:=by decide) (hcd:NC x:=by decide) (hn:yQ i:=by exactλ_ _=>rfl)
  (hNy:X.N[y]? =some yn:=by rfl) (hy:Loc X.env.scope yn:=by first|exact Cv rfl|exact Dc rfl) (hvy:Vis X.env.scope yn:=by trivial) (hdy:ND yn:=by decide) (hcdy:NC yn:=by decide)
  (hsw:swapsWith #v[76] (some (.Name yn py)) pos.line X.env=pure false:=by rfl) (hf:FL X yn:=by trivial)
  (hbase:attributeBase (.Name yn p2) "insert" X.env (eval (.Name yn p2) X.env)=eval (.Name yn p2) X.env:=by rfl)
  (hfew:((backTo cpos (starEach [a,b] X.env)).all (λx=> !x.1) && (backToKw cpos #v[30]).all (λx=>x.1.isSome)
   && decide ([a,b].length+([]:List Keyword).length+(if([]:List Keyword).isEmpty then 0 else 1)<30))=true:=by rfl)
  (hline:EL apos cpos:=by rfl) (hs:starEach [a,b] X.env=(false,eval a X.env)::starEach [b] X.env:=by rfl) (hs2:SE X b []:=by rfl) (hplain:BT X cpos [b]:=by rfl)
  (hsw2:swapsWith (.Call (.Attribute (.Name yn p2) "insert" apos) [a,b] [] cpos) none pos2.line X.env=pure false:=by rfl):
  VSs X (.Assign [.Name yn py] #v[76] pos:: .Expr (.Call (.Attribute (.Name yn p2) "insert" apos) [a,b] [] cpos) pos2::rest) (aZb j y Fi Fa Fb G):=by
 obtain⟨_,p1,f1⟩:=hi;obtain⟨_,pa,fa⟩:=ha;obtain⟨_,pb,fb⟩:=hb;obtain⟨_,pg,fg⟩:=hG;refine#[_,bB (zY hNd hNy hy (tR lA (pA hN hv hd hcd) p1 hn) hsw hf) (bB (qW (aJ2 Ht PySem.F.slot_list_insert PySem.F.type_list_insert aTb (pA hNy hvy hdy hcdy) (bZ pa (bZ pb dN hs2) hs) hbase hfew hline hs hplain) hsw2) pg),λ{W B H0 A ρ σ H E D} o h jj=>?_];obtain⟨ls,hj,ne,h⟩:=h;obtain⟨p,g1,_⟩:=o.hd j _ _ hj rfl;refine#[_,g1,f1 o.ee h λsk v H1 h1 w1 r1=>?_];obtain⟨i,n,l,ek,hi,hl,ll,h1⟩:=h1;have o1:=o.to w1;obtain⟨p',g2,qs,gs,gp,gn,gx,gr⟩:=o1.hd j _ _ hj rfl;rw[g1]at g2;cases g2;have d:=r1.db o.ee.eb;rw[ek]at d;obtain⟨q,vs,a1,a2,a3⟩:=gr.at_ hl;have mq:=Ai a1;have Aq:A j q:=(gs q).mpr (.inr mq);have e1:=o1.ee.setBr (y:=y) (o1.nw Aq) a2 a3;have yl:y<σ.length:=by rw[<-o.len];exact ne
 refine#[p,_,i,.ref q,rfl,d.int,SqL.of gx,aJ6 (by rw[Ab,gr.len]) hi (by rw[Ay,a1];rfl),?_];refine#[V.ref q,get_set yl,.inl #[rfl,_,SqL.of a2],fa e1 h1 λs va H2 h2 w2 r2=>?_];obtain⟨z0,k,ekk,hk,hz0,h2⟩:=h2;have d2:=r2.db e1.eb;rw[ekk]at d2;obtain rfl:=d2.int;have e2:=e1.to w2;refine fb e2 h2 λs vb H3 h3 w3 r3=>?_;obtain⟨u,⟨ut,h3⟩,du⟩:=r3.du e2.eb h3;have o3:=(o1.to w2).to w3;obtain⟨p',g2,qs',gs',gp',gn',gx',gr'⟩:=o3.hd j _ _ hj rfl;rw[g1]at g2;cases g2;have ke:∀b,A j b->H3 b=H1 b:=λb hb=>let⟨z,hz,_⟩:=o1.aw j b hb;(w3.fr b z (o1.nw hb) (w2.fr b z (o1.nw hb) hz)).trans hz.symm;have eqs:qs'=qs:=by
  have:=gx'.symm.trans ((ke p ((gs p).mpr (.inl rfl))).trans gx);exact(List.map_inj_right λ_ _ h=>V.ref.inj h).mp (HO.lst.inj (Bi this))
 subst eqs;have a2':=(ke q Aq).trans a2;have pq:p≠q:=λz=>gp (by rw[z];exact mq);have a3':=DUs.mono (λb o n h=>#[n,(o1.ee.eb.keep (w2.trans w3) b o n h).2]) l a3;have vl:=a3.length;refine#[q,vs,vb,z0,k,rfl,rfl,a2',∅,hz0.imp id λh=>#[h.1,List.length_eq_zero_iff.mp (by rw[<-vl,h.2];rfl)],?_,?_]
 ·have:(10000:Nat)<=sizeLine:=by decide
  lia
 ·have o4:=o3.chg g1 Aq (s':=.oo (llO (ls.set n (l.take k++u::l.drop k)))) (x:=.lst (vs.take k++vb::vs.drop k)) rfl rfl #[qs',gs',gp',gn',(aN pq).trans gx',gr'.put (.inr #[j,Aq]) gn' a1 ((a3'.take k).app (show DUs _ _ _ (u::l.drop k) _ from#[_,_,rfl,du,a3'.drop k]))];exact fg o4.setNo h3 jj
def aKy:bootBuiltins "min"=some (.builtin "min"):=by decide+kernel
def aZ3(F:TVa)(D:TV):TV:=λρ R=>F ρ λus=>D ρ λs=>∃ns:List Int,us=[.ls #v[w]]/\match s.rd with
 |.v d=>(ns=[]->R (.sh (.v d)))/\∀m:Int,m∈ns->(∀a∈ns,m<=a)->R (.sh (.n m))
 |_=>False
def aTk{k:Expr}{kp:Pos}{F:TVa}{D:TV}{p pos:Pos}(hc:X.calm=true)(hm:X.mg "min"=none)(ha:VB X [a] F)(hk:VE X k D)(hg:Gl X "min":=by rfl)
  (hkw:∀{tk:TE},PE X k tk->PK X [#[some "default",k,kp]] (aJg tk aIm):=by exactλh=>aJh h aP7)
  (hall:#v[j].all (·.1.isSome)=true:=by rfl) (hks:#v[j].filterMap (·.1)=[("default":Str)]:=by rfl)
  (he:SE X a []:=by rfl) (hpl:BT X pos [a]:=by rfl) (hpk:#v[j].any (·.1.isNone)=false:=by rfl):
  VE X (.Call (.Name "min" p) [a] [#[some "default",k,kp]] pos) (aZ3 F D):=
 let⟨_,q1,f1⟩:=ha;let⟨_,q2,f2⟩:=hk;⟨_,aCe (aJl (g:=false) hc) hg hm aKy q1 (hkw q2) hall hks ⋯ ⋯ he hpl hpk,λe h q=>f1 e h λus vs H1 h1 w1 d1=>f2 (e.to w1) h1 λs v H2 h2 w2 r2=>by
  obtain⟨ns,eu,h2⟩:=h2;subst eu;have e2:=(e.to w1).to w2;obtain⟨x,rfl,d⟩:=DBs.one (DBs.to (e.to w1).eb w2 d1);obtain⟨p,xs,rfl,_,hp,ds⟩:=d.ls e2.eb;rw[ds.ints]at hp;have dd:=r2.db (e.to w1).eb;revert h2 dd;generalize s.rd=u;intro h2 dd;split at h2
  ·obtain⟨rfl,fl⟩:=dd.fl;exact#[p,ns,_,rfl,rfl,SqL.of hp,λz=>q _ _ _ (h2.1 z) (w1.trans w2) #[rfl,fl],λm h3 h4=>q _ _ _ (h2.2 m h3 h4) (w1.trans w2) #[rfl,rfl]]
  ·exact h2.elim⟩
def bAf{X:Cx}{tg e:Expr}{F G:TVa}(h1:VI X tg e F)(h2:VI X tg e G):VI X tg e (λρ R=>F ρ R∨G ρ R):=
 let⟨w1,p1,f1⟩:=h1;let⟨w2,p2,f2⟩:=h2;#[λσ H R=>w1 σ H R∨w2 σ H R,λpins s σ H R I h=>h.elim (p1 pins s σ H R I) (p2 pins s σ H R I),λe h q=>h.imp (λh=>f1 e h q) λh=>f2 e h q]
def aSu(F:#v[q])(b a:TV):TV:=λρ R=>b ρ λs=>s.es λu=>a ρ λs=>match s with
 |.ow [.v (.int _),.v (.int _),.v (.int _)]=>F [u,.wl] λs=>s.nw/\R s
 |_=>False
def aLp{x:Str}{F:#v[q]}{a b:Expr}{Fa Fb:TV}{p pos:Pos}(C:#v[100])(hr:eY k X.A)(hg:Gl X x)
  (hb:VE X b Fb) (ha:VE X a Fa) (hdb:ND x:=by decide) (he:starEach (b::[a]) X.env=(false,eval b X.env)::starEach [a] X.env:=by rfl) (he2:SE X a []:=by rfl) (hpl:BT X pos [a]:=by rfl):
  VE X (.Call (.Name x p) [b,a] [] pos) (aSu F Fb Fa):=
 let⟨_,p,f⟩:=ha;let⟨_,p',f'⟩:=hb;⟨_,aWi C hr hg aB4 (bZ p' (bZ p dN he2) he) hdb he hpl,λ{W B ρ σ H R Q} e h q=>f' e h λsb vb H0 h0 f0 r0=>by
  obtain⟨u,h0,du⟩:=r0.du e.eb h0;have e0:=e.to f0;refine f e0 h0 λs v H1 h1 f1 r1=>?_;match s,h1,r1 with
  |.ow [.v (.int x),.v (.int y),.v (.int z)],h1,⟨p,xs,e1,n1,g2,dd⟩=>
   obtain⟨x1,_,rfl,d1,x2,_,rfl,d2,x3,r3,rfl,d3,d4⟩:=dd;obtain rfl:r3=[]:=d4;rw[d1.1,d2.1,d3.1]at g2;have e2:=(e0.more f1 n1 g2 trivial).eb;have du1:DU W (λb=>B b∨b=p) H1 u vb:=DU.mono (λb o nb h=>#[λz=>z.elim nb (λy=>(by rw[y,n1]at h;cases h)),(e0.eb.keep f1 b o nb h).2]) u du;refine#[λb=>W b∨b=p,λb=>B b∨b=p,[u,.wl],_,#[e2.bl,λq hq=>hq.imp (e.eb.wb q) id,λq hq=>hq.elim (e2.wo q) λz=>by rw[z];exact#[_,_,_,g2]],(by rw[Bb];exact#[vb,[v],rfl,DU.wm (λ_=> .inl) u du1,v,[],rfl,#[p,e1,.inr rfl],rfl]),h1,λs v H3 h3 f3 r3=>?_];have f4:Fw W H H3:=f0.trans #[λb o w h=>f3.fr b o (λz=>z.elim w λy=>by rw[y,n1]at h;cases h) (f1.fr b o w h),λq hq=>f3.wo q (.inl hq)];have mo:∀b o,¬(B b∨b=p)->H3 b=some o->¬B b/\H3 b=some o:=λb o n h=>#[λz=>n (.inl z),h];refine q _ _ _ h3.2 f4 ?_;match s,h3.1,r3 with
   |.sh u,n,r=>exact DU.nw u n (DU.mono mo u r)
   |.ow l,n,⟨c,ys,e3,m1,m2,m3⟩=>exact#[c,ys,e3,(f0.trans f1).none_ m1,m2,DUs.nw l n (DUs.mono (λb o n h=>#[λz=>n (z.imp .inl id),h]) l m3)]⟩
end L2
namespace KR
open PySem PyProof.Rows L2
inductive Tm where
 |num (n:Int)
 |take (b:Int) (ss:List Int)
 |bin (k:Bool) (a b:Tm)
abbrev Tk:Type:=Int×List Int
structure Cn where
 num:Addr
 take:Addr
 bin:Bool->Addr
def cls(N:Cn):Tm->Addr
 |.num _=>N.num
 |.take _ _=>N.take
 |.bin k _ _=>N.bin k
def IsC(N:Cn)(C:Addr):Prop:=C=N.num∨C=N.take∨∃k,C=N.bin k
def isC(N:Cn)(t:Tm):IsC N (cls N t):=by
 cases t with
 |num=>exact .inl rfl
 |take=>exact .inr (.inl rfl)
 |bin k=>exact .inr (.inr #[k,rfl])
def kids:Tm->List Tm
 |.num _=>[]
 |.take _ _=>[]
 |.bin _ a b=>[a,b]
def ht:Tm->Nat
 |.num _=>1
 |.take _ _=>1
 |.bin _ a b=>max (ht a) (ht b)+1
def rF:Tm->Nat
 |.num _=>1
 |.take _ _=>1
 |.bin _ a b=>1+(rF a+rF b)
def raw:Tm->List Tk
 |.num _=>[]
 |.take b ss=>[(b,ss)]
 |.bin _ a b=>raw a++raw b
def aEa(t:Tm):0<ht t:=by cases t<;>exact Qn _
theorem aV8(h:k∈kids t):ht k<ht t:=by cases t<;>grind [kids,ht]
def zJ(t:Tm):(kids t).length<=3:=by cases t<;>simp[kids]
theorem aJ4(h:k∈kids t)(x:Tk)(hx:x∈raw k):x∈raw t:=by cases t<;>grind [kids,raw]
def uX(t:Tm)(l:List Tk):Prop:=l.Pairwise (λx y=>wR x y=true)/\∀x,x∈l↔x∈raw t
def aLo(h:wR x y=true):wR y x=false:=by
 unfold wR at h⊢;by_cases e:x.1=y.1
 ·rw[if_pos e]at h;rw[if_pos e.symm];exact aBz _ _ h
 ·rw[if_neg e,decide_eq_true_iff]at h;rw[if_neg (Cg e),decide_eq_false_iff_not]
  lia
def aMl(x:Tk):Prop:=1<=x.1/\x.1<=3/\∀s∈x.2, -9<=s/\s<=9
def Wf:Tm->Prop
 |.num n=> -1000000000000<=n/\n<=1000000000000
 |.take _ _=>True
 |.bin _ a b=>Wf a/\Wf b
theorem aWa(h:k∈kids t)(w:Wf t):Wf k:=by cases t<;>grind [kids,Wf]
def aHg(t:Tm):Prop:=Wf t/\∀x∈raw t,aMl x/\1<=x.2.length/\x.2.length<=3
def aHg.kid(h:k∈kids t)(a:aHg t):aHg k:=#[aWa h a.1,λx hx=>a.2 x (aJ4 h x hx)]
end KR
namespace Q
variable {W B:Addr->Prop}{ns:List Int}{l:List Tk}{t:Tm}{n:Nat}{r:Int}
open PySem PyProof.Rows L2
def top(i:Nat):Stmt:=PySem.Challenge.pw_slanttiles_k72_whole_waits_only_delay.main.body.getD i (.Pass #[0,0,0,0])
abbrev oH:Stmt:=top 8
abbrev mG:Stmt:=top 9
abbrev uF:Stmt:=top 11
abbrev rZ:Stmt:=top 12
abbrev eQ:Stmt:=inClass (top 18) 0
abbrev rQ:Stmt:=top 19
abbrev lN:Stmt:=top 20
abbrev jW:Stmt:=top 21
abbrev oA:Stmt:=top 22
abbrev oG:Stmt:=top 23
abbrev wQ:Stmt:=top 24
abbrev nR:Stmt:=top 25
abbrev qH:Stmt:=top 26
abbrev qP:Stmt:=top 28
abbrev iC:Stmt:=top 29
abbrev nJ:Stmt:=top 31
abbrev rN:Stmt:=top 32
abbrev rB:Stmt:=top 33
abbrev mL:Stmt:=top 34
abbrev uO:Stmt:=top 35
abbrev uG:Stmt:=top 36
abbrev lY:Stmt:=inClass (top 45) 0
abbrev gG:Stmt:=inClass (top 45) 1
abbrev mJ:Stmt:=inClass (top 45) 4
abbrev jM:Stmt:=inClass (top 45) 5
abbrev iW:Stmt:=inClass (top 45) 6
abbrev jC:Stmt:=inClass (top 46) 0
abbrev fG:Stmt:=inClass (top 46) 1
abbrev lQ:Stmt:=inClass (top 47) 0
abbrev gP:Stmt:=inClass (top 47) 1
abbrev mK:Stmt:=inClass (top 47) 4
abbrev iV:Stmt:=inClass (top 48) 0
abbrev jL:Stmt:=inClass (top 48) 1
abbrev nQ:Stmt:=top 51
abbrev qN:Stmt:=top 52
abbrev kZ:Stmt:=top 53
abbrev qJ:Stmt:=top 54
abbrev jO:Stmt:=inClass (top 59) 0
abbrev qX:Stmt:=inClass (top 59) 1
abbrev iM:Stmt:=inClass (top 59) 2
abbrev oM:Stmt:=inClass (top 59) 3
abbrev qF:Stmt:=top 60
abbrev vP:Stmt:=top 61
abbrev aAl:Stmt:=top 64
abbrev lR:Stmt:=inClass (top 71) 0
abbrev rA:Stmt:=inClass (top 71) 1
abbrev iT:Stmt:=inClass (top 71) 2
abbrev jE:Stmt:=inClass (top 71) 3
abbrev gH:Stmt:=inClass (top 71) 4
abbrev oR:Stmt:=top 72
abbrev wX:Stmt:=top 73
abbrev sW:Stmt:=top 74
abbrev nC:Stmt:=top 76
abbrev sJ:Stmt:=top 77
abbrev rO:Stmt:=top 78
abbrev jF:Stmt:=top 79
abbrev kW:Stmt:=top 80
abbrev lZ:Stmt:=top 81
abbrev kE:Stmt:=top 84
abbrev iY:Stmt:=top 85
abbrev fJ:Stmt:=top 86
abbrev iG:Stmt:=top 87
abbrev fC:Stmt:=top 88
abbrev xX:Stmt:=top 89
structure Txt(mg:Str->#v[12]):Prop where
 isinstance:mg "isinstance"=none
 int:mg "int"=none
 bool:mg "bool"=none
 str:mg "str"=none
 tuple:mg "tuple"=none
 list:mg "list"=none
 len:mg "len"=none
 range:mg "range"=none
 enumerate:mg "enumerate"=none
 max:mg "max"=none
 min:mg "min"=none
 sorted:mg "sorted"=none
 sum:mg "sum"=none
 set:mg "set"=none
 all:mg "all"=none
 any:mg "any"=none
 zip:mg "zip"=none
 abs:mg "abs"=none
 dict:mg "dict"=none
 c_MOST_PIECES:∃t,mg "MOST_PIECES"=some (.int 120 t)
 c_MOST_HANDS:∃t,mg "MOST_HANDS"=some (.int 4 t)
 c_MOST_WAITS:∃t,mg "MOST_WAITS"=some (.int 400 t)
 c_GREATEST_SLOT:∃t,mg "GREATEST_SLOT"=some (.int 119 t)
 c_GREATEST_NUMBER:∃t,mg "GREATEST_NUMBER"=some (.int 1000000000000 t)
 c_GREATEST_BACK:∃t,mg "GREATEST_BACK"=some (.int 3 t)
 c_GREATEST_STEP:∃t,mg "GREATEST_STEP"=some (.int 9 t)
 c_MOST_STEPS:∃t,mg "MOST_STEPS"=some (.int 3 t)
 c_MOST_DEPTH:∃t,mg "MOST_DEPTH"=some (.int 12 t)
 c_MOST_PARTS:∃t,mg "MOST_PARTS"=some (.int 60 t)
 c_MOST_TAKES:∃t,mg "MOST_TAKES"=some (.int 6 t)
 c_GREATEST_MODULUS:∃t,mg "GREATEST_MODULUS"=some (.int 1000000000 t)
 c_MOST_ROUNDS:∃t,mg "MOST_ROUNDS"=some (.int 12 t)
 c_MOST_SPOTS:∃t,mg "MOST_SPOTS"=some (.int 120 t)
 c_GREATEST_FIXED:∃t,mg "GREATEST_FIXED"=some (.int 1000000000 t)
 c_MOST_LINES:∃t,mg "MOST_LINES"=some (.int 3 t)
 c_GREATEST_SIZE:∃t,mg "GREATEST_SIZE"=some (.int 9 t)
 c_MOST_PLACES:∃t,mg "MOST_PLACES"=some (.int 40 t)
variable {P:Program}{w:World}{K:Ad}{mg:Str->#v[12]}{base:Heap}{f:Addr}{fd:FuncData}
abbrev Fv:=List U->(Sl->Prop)->Prop
def bBp:U->Bool
 |.v (.int _)=>true
 |_=>false
def aNs:Fv:=λus R=>∃u t,us=[u]/\tyU u=some t/\R (.sh (.b (bBp u)))
def aFk:aQ ["thing"] ["thing"] (aC uF):={}
def aNl(F:Fun K "is_whole" "is_whole" uF f fd)(T:Txt mg):↥1 f fd ["thing"] (spV aNs):=by
 refine vfn F aFk (λcdv A outer s H E hr=>(aG (aU (lV (iR .int nofun T.isinstance T.int Pg (aA 0)) (lO (aWp (iR .bl nofun T.isinstance T.bool boot_bool (aA 0)))))))) ?_;rintro _ R ⟨u,t,rfl,ht,q⟩;unfold tyU at ht;split at ht<;>cases ht<;>first|exact#[rfl,_,rfl,λ_=>#[_,rfl,q],nofun]|exact#[rfl,_,rfl,nofun,λ_=>q]
def isIn(u:U)(a b:Int):Bool:=match u with
 |.v (.int i)=>decide (a<=i) && decide (i<=b)
 |_=>false
def fQ:Fv:=λus R=>∃u t a b,us=[u,.n a,.n b]/\tyU u=some t/\R (.sh (.b (isIn u a b)))
def aDz:aQ ["thing","least","most"] ["thing","least","most"] (aC rZ):={}
def aL5(F:Fun K "is_within" "is_within" rZ f fd)(c_is_whole:⇑1 "is_whole" ["thing"] (spV aNs)):↥2 f fd ["thing","least","most"] (spV fQ):=by
 refine vfn F aDz (λcdv A outer s H E hr=>(aG (aU (lV (aL c_is_whole (hr.mono ⋯) rfl (aB (aA 0) aF)) (lO (aNp aAc aAc cU cU (aA 1) (aA 0) (aA 2))))))) ?_;rintro _ R ⟨u,t,a,b,rfl,ht,q⟩;refine#[rfl,u,t,rfl,ht,?_];match u,q with
 |.v (.int i),q=>exact#[λ_=>#[λh=>by simp only[isIn,h,Uz]at q;exact q,λh=>by simp only[isIn,h,Jo]at q;exact q],nofun]
 |.v .non,q=>exact#[nofun,λ_=>q]
 |.v (.bl _),q=>exact#[nofun,λ_=>q]
 |.v (.str _),q=>exact#[nofun,λ_=>q]
 |.tp _,q=>exact#[nofun,λ_=>q]
 |.ls _,q=>exact#[nofun,λ_=>q]
 |.dk _ _,q=>exact#[nofun,λ_=>q]
inductive Rim where
 |fixed (v:Int)
 |mirror
 |round
def Rim.u:Rim->U
 |.fixed v=> .tp [.s "fixed",.n v]
 |.mirror=> .tp [.s "mirror"]
 |.round=> .tp [.s "round"]
def Rim.ok:Rim->Prop
 |.fixed v=>0<=v/\v<=1000000000
 |_=>True
def aO2:Fv:=λus R=>∃r:Rim,us=[r.u]/\r.ok/\R #v[x]
abbrev PW3:List Str:=["thing","least","most"]
def aLd:aQ ["thing"] ["thing"] (aC aAl):={}
def aM4(F:Fun K "is_rim" "is_rim" aAl f fd)(c_is_within:#v[i])(T:Txt mg):↥3 f fd ["thing"] (spV aO2):=by
 obtain⟨_,g_GREATEST_FIXED⟩:=T.c_GREATEST_FIXED;refine vfn F aLd (λcdv A outer s H E hr=>(aD (cB (iD (jA (cH (cI (iR .tp nofun T.isinstance T.tuple Lw (aA 0)))) (fB (bK #v[V] dD #v[a] aH)))) #v[61] bA) (aD (cB (cH (cI (iR .str nofun T.isinstance T.str boot_str #v[t]))) #v[61] bA) (aD (cB (bK #v[V] dD #v[t] qM) (aG (aU (lV (iB #v[V] dD #v[a] aH) (lO (aL c_is_within (hr.mono ⋯) rfl (aB #v[t] (aB aH (aB (dB g_GREATEST_FIXED) aF)))))))) bA) (aG (aU (lV (iB #v[V] dD #v[a] aH) (lO (iB (aWj (huD hr)) aP9 #v[t] (dM (aB qM (aB qM aF)))))))))))) ?_;rintro _ R ⟨r,rfl,ok,q⟩;match r,ok with
 |.fixed v,ok=>
  refine#[rfl,_,rfl,nofun,λ_=>#[trivial,trivial,nofun,λ_=>?_]];refine#[_,rfl,_,rfl,nofun,λ_=>?_];refine#[_,rfl,trivial,trivial,λ_=>?_,λh=>absurd h #v[5]];refine#[trivial,trivial,λ_=>#[_,rfl,_,_,_,_,rfl,rfl,?_],nofun];simp only[isIn,ok.1,ok.2,decide_true,Uz];exact q
 |.mirror,_=>
  refine#[rfl,_,rfl,nofun,λ_=>#[trivial,trivial,nofun,λ_=>?_]];refine#[_,rfl,_,rfl,nofun,λ_=>?_];refine#[_,rfl,trivial,trivial,λh=>absurd h #v[5],λ_=>?_];refine#[trivial,trivial,λ_=>#[_,rfl,trivial,#[trivial,trivial,trivial],?_],λh=>absurd h #v[5]];exact Rbl q #v[5]
 |.round,_=>
  refine#[rfl,_,rfl,nofun,λ_=>#[trivial,trivial,nofun,λ_=>?_]];refine#[_,rfl,_,rfl,nofun,λ_=>?_];refine#[_,rfl,trivial,trivial,λh=>absurd h #v[5],λ_=>?_];refine#[trivial,trivial,λ_=>#[_,rfl,trivial,#[trivial,trivial,trivial],?_],λh=>absurd h #v[5]];exact Rbl q #v[5]
def oF(ns:List Int):Int:=ns.foldl (λa n=>a*n) 1
structure iZ(ns:List Int):Prop where
 ok:∀n∈ns,1<=n/\n<=9
 l1:1<=ns.length
 l3:ns.length<=3
 mn:oF ns<=40
def aM3:Fv:=λus R=>∃ns:List Int,us=[.ls #v[w]]/\(∀n∈ns,1<=n/\n<=9)/\ns.length<=3/\R (.sh (.n (oF ns)))
def qK:aQ ["sizes","many","size"] ["sizes"] (aC wX):={}
def aSv(F:Fun K "product" "product" wX f fd):↥1 f fd ["sizes"] (spV aM3):=by
 refine vfn F qK (λcdv A outer s H E hr=>(aD (aZ (i:=1) qK.nd aH) (aD (cO Bc rfl (aX (aA 0)) (cR (i:=2) qK.nd) (aG (aZ (i:=1) qK.nd (cT oY aGd (aA 1) (aA 2))))) (aG (jH 1))))) ?_;rintro _ R ⟨ns,rfl,ok,_,q⟩;refine#[rfl,?_];refine bG (λl ρ=>∃(ms:List Int)(a:Int)(x y:Sl),l=ms.map U.n/\ρ=[x,.sh (.n a),y]/\(∀n∈ms,1<=n/\n<=9)/\R (.sh (.n (ms.foldl (λa n=>a*n) a)))) ?_ ?_ #[ns,1,_,_,rfl,rfl,ok,q]
 ·rintro ρ ⟨ms,a,x,y,e,rfl,_,q⟩;obtain rfl:=List.map_eq_nil_iff.mp e.symm;exact q
 ·rintro u r ρ ⟨ms,a,x,y,e,rfl,h,q⟩ ih;obtain⟨n,ms,rfl,rfl,rfl⟩:=List.map_eq_cons_iff.mp e.symm;have hn:=h n Ah;exact#[.inr #[∅,∅],ih _ #[ms,_,_,_,rfl,rfl,λm hm=>h m (Af _ hm),q]]
def grU(C:Addr)(ns:List Int)(rs:List Rim):U:=.ob C ["sizes","rims"] [.ls #v[w],.ls (rs.map Rim.u)]
def aO1:Fv:=λus R=>∃(ns:List Int)(rs:List Rim),us=[.ls #v[w],.ls (rs.map Rim.u)]/\(∀n∈ns,1<=n/\n<=9)/\1<=ns.length/\ns.length<=3/\rs.length=ns.length/\(∀r∈rs,r.ok)/\R (.sh .no)
def nM:aQ ["sizes","rims","line","rim"] ["sizes","rims"] (aC oR):={}
def aP3(F:Fun K "check_lines" "check_lines" oR f fd)(c_is_within:#v[i])(c_is_rim:⇑3 "is_rim" ["thing"] (spV aO2))(T:Txt mg):↥4 f fd ["sizes","rims"] (spV aO1):=by
 obtain⟨_,g_MOST_LINES⟩:=T.c_MOST_LINES;obtain⟨_,g_GREATEST_SIZE⟩:=T.c_GREATEST_SIZE;refine vfn F nM (λcdv A outer s H E hr=>(aD (cB (iD (jA (cH (aFq aAc aAc cU cU aH #v[a] (dB g_MOST_LINES))) (fB (bK (lM (huD hr)) dD #v[23] #v[a])))) (aG jJ) bA) (aG (cO Bc rfl (aD8 T.enumerate (aB (aA 1) aF)) (qL rfl (cF (i:=2) nM.nd (cF (i:=3) nM.nd mF))) (aG (cB (iD (jA (cH (cI (aL c_is_within (hr.mono ⋯) rfl (aB (bH aY bI (aA 0) (aA 2)) (aB aH (aB (dB g_GREATEST_SIZE) aF)))))) (fB (cH (cI (aL c_is_rim (hr.mono ⋯) rfl (aB (aA 3) aF))))))) (aG jJ) bA)))))) ?_;rintro _ R ⟨ns,rs,rfl,ok,l1,l3,el,rk,q⟩;refine#[rfl,?_];have e1:#v[w].length=ns.length:=Ab ..;have e2:(rs.map Rim.u).length=ns.length:=by rw[Ab,el]
 refine#[λ_=>#[λh=>?_,λ_=>#[trivial,trivial,λh=>?_,λ_=>?_]],λh=>?_]
 ·simp at h;lia
 ·simp only[U.eq,U.d,D.eq,eqV,Sl.rd]at h;simp[el]at h
 ·refine bG (λl ρ=>∃(k:Nat)(ss:List Rim)(x y:Sl),l=(ss.map Rim.u |>.zipIdx k).map (λx=> .tp [.n (x.2:Nat),x.1])/\ρ=[.sh (.ls #v[w]),.sh (.ls (rs.map Rim.u)),x,y]/\k+ss.length=ns.length/\∀r∈ss,r.ok) ?_ ?_ #[0,rs,_,_,rfl,rfl,∅,rk]
  ·rintro ρ ⟨k,ss,x,y,e,rfl,_⟩;exact q
  ·rintro u r ρ ⟨k,ss,x,y,e,rfl,hk,ho⟩ ih;match ss,e,hk,ho with
   |s::ss,e,hk,ho=>
    cases e;have hl:k<ns.length:=by rw[Am]at hk;lia
    have hn:=ok _ (Im hl);refine#[rfl,U.n ns[k],bQ (by rw[Ay,Ag hl];rfl),_,_,_,_,rfl,rfl,?_];refine#[λh=>?_,λ_=>#[s,rfl,ho s Ah,nofun,λ_=>ih _ #[k+1,ss,_,_,rfl,rfl,by rw[Am]at hk;lia,λr hr=>ho r (Af _ hr)]]];simp[isIn,hn.1,hn.2]at h
 ·simp at h;lia
def aHf(C:Addr):Fv:=λus R=>∃ns rs,us=[grU C ns rs]/\R (.sh (.n ns.length))
def aBn:aQ ["self"] ["self"] (aC rA):={}
def aMf(F:Fun K "lines" "Grid.lines" rA f fd)(cG:Cfl K C ["sizes","rims"])(T:Txt mg):↥1 f fd ["self"] (spV (aHf C)):=by
 refine vfn F aBn (λcdv A outer s H E hr=>(aG (aU (aO aK bF T.len Br (aJ (dW cG (aA 0)) aM))))) ?_;rintro _ R ⟨ns,rs,rfl,q⟩;refine#[rfl,rfl,.inl #[rfl,?_]];rw[<-Ab (f:=U.n)]at q;exact q
def aTs(C:Addr):Fv:=λus R=>∃ns rs,us=[grU C ns rs]/\iZ ns/\R (.sh (.n (oF ns)))
def tK:aQ ["self"] ["self"] (aC iT):={}
def aTf(F:Fun K "places_many" "Grid.places_many" iT f fd)(cG:Cfl K C ["sizes","rims"])(c_product:⇑1 "product" ["sizes"] (spV aM3)):↥2 f fd ["self"] (spV (aTs C)):=by
 refine vfn F tK (λcdv A outer s H E hr=>(aG (aU (aL c_product (hr.mono ⋯) rfl (aB (dW cG (aA 0)) aF))))) ?_;rintro _ R ⟨ns,rs,rfl,g,q⟩;exact#[rfl,rfl,.inl #[rfl,ns,rfl,g.ok,g.l3,q]]
open PySem PyProof.Rows L2 KR
def enc(N:Cn):Tm->U
 |.num n=> .ob N.num ["value"] [.n n]
 |.take b ss=> .ob N.take ["back","steps"] [.n b,.tp (ss.map U.n)]
 |.bin k a b=> .ob (N.bin k) ["one","other"] [enc N a,enc N b]
def gF{N:Cn}{m:Str}{F:Addr->Fv}{G:TVa}{ρ:EV}{R:Sl->Prop}(t:Tm)(h1:(["value","back","steps","one","other"]:List Str).elem m=false)(h:G ρ λvs=>F (cls N t) (enc N t::vs) R):mOb (IsC N) m F G ρ R (enc N t):=by
 have hc:=isC N t;have k:∀ns:List Str,(∀x∈ns,x∈(["value","back","steps","one","other"]:List Str))->ns.elem m=false:=λns hn=>by
  cases q:ns.elem m with
  |false=>rfl
  |true=>
   have:=hn m (List.elem_iff.mp q);rw[List.elem_iff.mpr this]at h1;cases h1
 cases t with
 |num n=>exact#[hc,k _ (by simp),h]
 |take b ss=>exact#[hc,k _ (by simp),h]
 |bin j a b=>exact#[hc,k _ (by simp),h]
def lL(N:Cn)(C:Addr):Fv:=λus R=>∃t,us=[enc N t]/\cls N t=C/\R (.ow ((kids t).map (enc N)))
variable {f C:Addr}{N:Cn}
def aBb:aQ ["self"] ["self"] (aC lY):={}
def aB2(F:Fun K "inner" "Term.inner" lY f fd)(hC:∀t,cls N t=C->kids t=[]):↥1 f fd ["self"] (spV (lL N C)):=by
 refine vfn F aBb (λcdv A outer s H E hr=>(aG (aU (bL aF)))) ?_;rintro _ R ⟨t,rfl,e,q⟩;rw[hC t e]at q;exact#[rfl,q]
def yO:aQ ["self"] ["self"] (aC jL):={}
def aK5(F:Fun K "inner" "Paired.inner" jL f fd)(cP:Cfl K (N.bin k) ["one","other"])(hC:∀t,cls N t=N.bin k->∃a b,t=.bin k a b):↥1 f fd ["self"] (spV (lL N (N.bin k))):=by
 refine vfn F yO (λcdv A outer s H E hr=>(aG (aU (bL (aB (dW cP (aA 0)) (aB (dW cP (aA 0)) aF)))))) ?_;rintro _ R ⟨t,rfl,e,q⟩;obtain⟨a,b,rfl⟩:=hC t e;exact#[rfl,rfl,.inl #[rfl,rfl,.inr #[by decide+kernel,.inl #[rfl,q]]]]
def aCm(h:l.Pairwise λx y=>wR x y=true):l.Nodup:=h.imp λ{x y} h z=>by
 subst z;rw[aLo h]at h;cases h
def Few(t:Tm):Prop:=∃ks:List Tk,ks.length<4/\∀x∈raw t,x∈ks
def aDw(f:Few t)(h:uX t l):l.length<=3:=by
 obtain⟨ks,kl,km⟩:=f;have:=(aCm h.1).length_le_of_subset (l₂:=ks) λx hx=>km x ((h.2 x).mp hx)
 lia
theorem aNd(h:∀b ss,t≠.take b ss)(x:Tk):x∈raw t↔ ∃k∈kids t,x∈raw k:=by cases t<;>simp[raw,kids]<;>grind
def yX(t:Tm)(h:ht t<=d+1):∀k∈kids t,ht k<=d:=λk hk=>by have:=aV8 hk;lia
def sU(N:Cn)(d:Nat)(C:Addr):Fv:=λus R=>∃t,us=[enc N t]/\cls N t=C/\ht t<=d/\Few t/\∀ys,uX t ys->R (.ow #v[46])
abbrev lU(P:Program)(w:World)(K:Ad)(mg:Str->#v[12])(base:Heap)(N:Cn)(k:Nat)(m:Str)(F:Addr->Fv):Prop:=Dis P w K mg base CX0 k (IsC N) m ["self"] λC=>spV (F C)
variable {d:Nat}
def oN:aQ ["self","pairs","part"] ["self"] (aC mJ):={}
def aKb(F:Fun K "takes" "Term.takes" mJ f fd)(hC:∀t,cls N t=C->∀b ss,t≠.take b ss)(D_inner:#v[v])(D_takes:lU P w K mg base N (d+1) "takes" (sU N d))(T:Txt mg):↥(d+2) f fd ["self"] (spV (sU N (d+1) C)):=by
 refine vfn F oN (λcdv A outer s H E hr=>(aD (aZ (i:=1) oN.nd (bL aF)) (aD (cO Bc rfl #v[85] (cR (i:=2) oN.nd) (aG (wK 1 (cC (aA 2) D_takes (hr.mono ∅))))) (aG (aU (aS2 hr rfl T.sorted T.set (aJ (aA 1) aM))))))) ?_;rintro _ R ⟨t,rfl,e,hd,fw,q⟩;refine#[rfl,gF t #v[5] #[t,rfl,rfl,?_]];refine bG (λl ρ=>∃(ks js:List Tm)(ps:List Tk)(x:Sl),l=ks.map (enc N)/\js++ks=kids t/\ρ=[.sh (enc N t),.ow (ps.map tkU),x]/\ps.length<=17*js.length/\∀y,y∈ps↔ ∃k∈js,y∈raw k) ?_ ?_ #[kids t,[],[],_,rfl,rfl,rfl,Aj _,by simp]
 ·rintro ρ ⟨ks,js,ps,x,el,ej,rfl,pl,pm⟩;obtain rfl:=List.map_eq_nil_iff.mp el.symm;rw[Bb]at ej;subst ej;have kl:=zJ t;have rk:=aNd (hC t e);exact#[ps,rfl,∅,let⟨zs,zl,zm⟩:=fw;#[zs,zl,λy hy=>zm y ((rk y).mpr ((pm y).mp hy))],λys pw ym=>q ys #[pw,λy=>(ym y).trans ((pm y).trans (rk y).symm)]]
 ·rintro u r ρ ⟨ks,js,ps,x,el,ej,rfl,pl,pm⟩ ih;obtain⟨k,ks,rfl,rfl,rfl⟩:=List.map_eq_cons_iff.mp el.symm;have hk:k∈kids t:=by rw[<-ej];simp
  have fk:Few k:=let⟨zs,zl,zm⟩:=fw;#[zs,zl,λy hy=>zm y (aJ4 hk y hy)];refine gF k #v[5] #[k,rfl,rfl,yX t hd k hk,fk,λys ik=>?_];have yl:=aDw fk ik;have kl:=zJ t;have jl:js.length+(ks.length+1)<=3:=by rw[<-ej,Al,Am]at kl;exact kl
  refine#[by rw[Ab,Ab];lia,ih _ #[ks,js++[k],ps++ys,_,rfl,by rw[Ce];exact ej,by rw[Ca];rfl,by rw[Al,Al];show _<=17*(js.length+1);lia,λy=>?_]];rw[Nr,pm y,ik.2 y];constructor
  ·rintro(⟨j,hj,hy⟩|hy)
   ·exact#[j,Bf _ hj,hy]
   ·exact#[k,by simp,hy]
  ·rintro⟨j,hj,hy⟩;rcases List.mem_append.mp hj with hj|hj
   ·exact .inl #[j,hj,hy]
   ·rw[List.mem_singleton.mp hj]at hy;exact .inr hy
def aA8:aQ ["self"] ["self"] (aC mK):={}
def aL9(F:Fun K "takes" "Take.takes" mK f fd)(cK:Cfl K N.take ["back","steps"])(hC:∀t,cls N t=N.take->∃b ss,t=.take b ss):↥(d+2) f fd ["self"] (spV (sU N (d+1) N.take)):=by
 refine vfn F aA8 (λcdv A outer s H E hr=>(aG (aU (bL (aB (dM (aB (dW cK (aA 0)) (aB (dW cK (aA 0)) aF))) aF))))) ?_;rintro _ R ⟨t,rfl,e,hd,fw,q⟩;obtain⟨b,ss,rfl⟩:=hC t e;exact#[rfl,rfl,.inl #[rfl,rfl,.inr #[by decide+kernel,.inl #[rfl,q [(b,ss)] #[Kd ..,λ_=>Kj]]]]]
def aEi(N:Cn)(g:Tm->Nat)(d:Nat)(C:Addr):Fv:=λus R=>∃t,us=[enc N t]/\cls N t=C/\ht t<=d/\rF t<=200/\R (.sh (.n (g t)))
theorem zL{t k:Tm}(h:k∈kids t):rF k<=rF t:=by cases t<;>grind [kids,rF]
def aO0(t:Tm):∀m:Int,(kids t=[]/\m=0)∨(m∈(kids t).map (λk=>(ht k:Int))/\∀a∈(kids t).map (λk=>(ht k:Int)),a<=m)->1+m=(ht t:Int):=by
 intro m h;cases t with
 |num n=>rcases h with ⟨_,h⟩|⟨h,_⟩<;>simp[kids,ht]at h⊢;lia
 |take b ss=>rcases h with ⟨_,h⟩|⟨h,_⟩<;>simp[kids,ht]at h⊢;lia
 |bin k a b=>rcases h with ⟨h,_⟩|⟨h,g⟩<;>simp[kids,ht]at h⊢;simp[kids]at g;lia
def aM6(t:Tm):1+((kids t).map (λk=>(rF k:Int))).sum=(rF t:Int):=by
 cases t<;>simp[kids,rF]<;>lia
def ints_map{g:Tm->Nat}(ks:List Tm):ks.map (λk=>U.n (g k))=(ks.map λk=>(g k:Int)).map U.n:=by rw[Au];rfl
def aFe{g:Tm->Nat}{h:#v[y]}{R:List U->Prop}(hf:∀k∈kids t,∀c:Option U->Prop,c (some (.n (g k)))->h (enc N k) c)(q:R (((kids t).map λk=>(g k:Int)).map U.n)):jT h ((kids t).map (enc N)) [] R:=by
 rw[<-ints_map]at q;revert hf q;generalize kids t=ks;have key:∀(ks:List Tm)(acc:List U),(∀k∈ks,∀c:Option U->Prop,c (some (.n (g k)))->h (enc N k) c)->R (acc++ks.map λk=>U.n (g k))->jT h (ks.map (enc N)) acc R:=by
  intro ks;induction ks with
  |nil=>exactλacc _ q=>by rw[Fm,Bb]at q;exact q
  |cons k ks ih=>exactλacc hf q=>hf k Ah _ (ih _ (λj hj=>hf j (Af _ hj)) (by rw[Ce];exact q))
 exactλhf q=>key ks [] hf q
abbrev aDl:List Str:=["self"]
def aBe:aQ ["self"] ["self"] (aC jM):={}
def aL4(F:Fun K "depth" "Term.depth" jM f fd)(D_inner:#v[v])(D_depth:lU P w K mg base N (d+1) "depth" (aEi N ht d))(T:Txt mg):↥(d+2) f fd ["self"] (spV (aEi N ht (d+1) C)):=by
 refine vfn F aBe (λcdv A outer s H E hr=>(aG (aU (cT dH fH aH (uW rfl T.max (aJ (dR (own:=["part"]) (cap:=[]) (aC jM) aDl rfl rfl (λx h=>aV h) #v[5] rfl (vic #v[85]) ↑(aW (i:=0) (~~~["part"]) rfl (Cv rfl) (Dc rfl)) (bC ⋯) ↑(cC (aA 0) D_depth (hr.mono ∅))) aM) aH))))) ?_;rintro _ R ⟨t,rfl,e,hd,hp,q⟩;refine#[rfl,gF t #v[5] #[t,rfl,rfl,?_]];refine#[by have:=zJ t;rw[Ab];lia,aFe (g:=ht) (λk hk c hc=>gF k #v[5] #[k,rfl,rfl,yX t hd k hk,by have:=zL hk;lia,hc]) ?_];refine#[_,rfl,λh=>?_,λm hm ha=>?_]
 ·have:=aO0 t 0 (.inl #[List.map_eq_nil_iff.mp h,rfl]);rw[<-this]at q;exact q
 ·have:=aO0 t m (.inr #[hm,ha]);rw[<-this]at q;exact q
abbrev aC5:List Str:=["self"]
def aBf:aQ ["self"] ["self"] (aC iW):={}
def aL7(F:Fun K "parts" "Term.parts" iW f fd)(D_inner:#v[v])(D_parts:lU P w K mg base N (d+1) "parts" (aEi N rF d))(T:Txt mg):↥(d+2) f fd ["self"] (spV (aEi N rF (d+1) C)):=by
 refine vfn F aBf (λcdv A outer s H E hr=>(aG (aU (cT dH fH aH (aO (vA rfl) aDy T.sum Uh (aJ (dR (own:=["part"]) (cap:=[]) (aC iW) aC5 rfl rfl (λx h=>aV h) #v[5] rfl (vic #v[85]) ↑(aW (i:=0) (~~~["part"]) rfl (Cv rfl) (Dc rfl)) (bC ⋯) ↑(cC (aA 0) D_parts (hr.mono ∅))) aM)))))) ?_;rintro _ R ⟨t,rfl,e,hd,hp,q⟩;have kl:=zJ t;refine#[rfl,gF t #v[5] #[t,rfl,rfl,?_]];refine#[by rw[Ab];lia,aFe (g:=rF) (λk hk c hc=>gF k #v[5] #[k,rfl,rfl,yX t hd k hk,by have:=zL hk;lia,hc]) ?_];refine#[_,rfl,by rw[Ab];lia,λn hn=>?_,?_]
 ·obtain⟨k,hk,rfl⟩:=List.mem_map.mp hn;have:=zL hk
  lia
 ·have:=aM6 t;rw[<-this]at q;exact q
def aIc:Fv:=λus R=>∃ss:List Int,us=[.tp (ss.map U.n)]/\1<=ss.length/\ss.length<=3/\(∀s∈ss, -9<=s/\s<=9)/\R #v[x]
abbrev aE4:List Str:=["thing"]
def aDs:aQ ["thing"] ["thing"] (aC nQ):={}
def aNy(F:Fun K "are_steps" "are_steps" nQ f fd)(c_is_within:#v[i])(T:Txt mg):↥3 f fd ["thing"] (spV aIc):=by
 obtain⟨_,g_MOST_STEPS⟩:=T.c_MOST_STEPS;obtain⟨_,g_GREATEST_STEP⟩:=T.c_GREATEST_STEP;refine vfn F aDs (λcdv A outer s H E hr=>(aD (cB (iD (jA (cH (cI (iR .tp nofun T.isinstance T.tuple Lw (aA 0)))) (fB (cH (aFq aAc aAc cU cU aH #v[a] (dB g_MOST_STEPS)))))) #v[61] bA) (aG (aU (aO jQ (qY rfl) T.all Kw (aJ (dR (own:=["step"]) (cap:=[]) (aC nQ) aE4 rfl rfl (λx h=>aV h) #v[5] rfl (vic (aOi (aA 0))) ↑(aW (i:=0) (~~~["step"]) rfl (Cv rfl) (Dc rfl)) (bC ⋯) ↑(aL c_is_within (hr.mono ⋯) rfl (aB (aA 0) (aB (aMi (dB g_GREATEST_STEP)) (aB (dB g_GREATEST_STEP) aF))))) aM)))))) ?_;rintro _ R ⟨ss,rfl,l1,l3,hs,q⟩;have e1:(ss.map U.n).length=ss.length:=Ab ..;refine#[rfl,_,rfl,nofun,λ_=>#[λ_=>#[λh=>?_,λ_=>?_],λh=>?_]]
 ·simp at h;lia
 ·refine#[∅,cD (h:=λ_=> .b true) (λu hu k hk=>?_) ?_]
  ·obtain⟨s,hs',rfl⟩:=List.mem_map.mp hu;have:=hs s hs';refine#[_,_,_,_,rfl,rfl,?_];show k (some (.b (isIn (.n s) (-9) 9)));rw[show isIn (.n s) (-9) 9=true by simp[isIn,this.1,this.2]];exact hk
  ·refine#[ss.map λ_=>true,by rw[Au,Au];rfl,?_];exact Rbl q (by simp)
 ·simp at h;lia
def uN(N:Cn)(C:Addr):Fv:=λus R=>∃t,us=[enc N t]/\cls N t=C/\aHg t/\R (.sh .no)
def vL:aQ ["self"] ["self"] (aC gG):={}
def aLs(F:Fun K "own_fault" "Term.own_fault" gG f fd):↥4 f fd ["self"] (spV (uN N C)):=by
 refine bJ.mono (vfn F vL (λcdv A outer s H E(hr:eY 0 _)=>(aG (aU rM))) ?_) ⋯;rintro _ R ⟨t,rfl,e,ok,q⟩;exact#[rfl,q]
def tL:aQ ["self"] ["self"] (aC fG):={}
def aK8(F:Fun K "own_fault" "Number.own_fault" fG f fd)(cN:Cfl K N.num ["value"])(hC:∀t,cls N t=N.num->∃n,t=.num n)(c_is_within:#v[i])(T:Txt mg):↥4 f fd ["self"] (spV (uN N N.num)):=by
 obtain⟨_,g_GREATEST_NUMBER⟩:=T.c_GREATEST_NUMBER;refine vfn F tL (λcdv A outer s H E hr=>(aD (cB (cI (aL c_is_within (hr.mono ⋯) rfl (aB (dW cN (aA 0)) (aB (aMi (dB g_GREATEST_NUMBER)) (aB (dB g_GREATEST_NUMBER) aF))))) (aG (aU rM)) bA) (aG (aU qM)))) ?_;rintro _ R ⟨t,rfl,e,ok,q⟩;obtain⟨n,rfl⟩:=hC t e;have h:=ok.1;simp only[Wf]at h;refine#[rfl,rfl,.inl #[rfl,_,_,_,_,rfl,rfl,λ_=>q,λz=>?_]];simp[isIn,h.1,h.2]at z
def uQ:aQ ["self"] ["self"] (aC gP):={}
def aKn(F:Fun K "own_fault" "Take.own_fault" gP f fd)(cK:Cfl K N.take ["back","steps"])(hC:∀t,cls N t=N.take->∃b ss,t=.take b ss)(c_is_within:#v[i])(c_are_steps:⇑3 "are_steps" ["thing"] (spV aIc))(T:Txt mg):↥4 f fd ["self"] (spV (uN N N.take)):=by
 obtain⟨_,g_GREATEST_BACK⟩:=T.c_GREATEST_BACK;refine vfn F uQ (λcdv A outer s H E hr=>(aD (cB (cH (cI (aL c_is_within (hr.mono ⋯) rfl (aB (dW cK (aA 0)) (aB aH (aB (dB g_GREATEST_BACK) aF)))))) (aG (aU qM)) bA) (aD (cB (cH (cI (aL c_are_steps (hr.mono ⋯) rfl (aB (dW cK (aA 0)) aF)))) (aG (aU qM)) bA) (aG (aU rM))))) ?_;rintro _ R ⟨t,rfl,e,ok,q⟩;obtain⟨b,ss,rfl⟩:=hC t e;obtain⟨⟨h1,h2,h3⟩,h4,h5⟩:=ok.2 (b,ss) Ah;refine#[rfl,rfl,.inl #[rfl,_,_,_,_,rfl,rfl,λz=>?_,λ_=>?_]]
 ·simp only at h1 h2;simp[isIn,h1,h2]at z
 ·exact#[rfl,.inr #[by decide+kernel,.inl #[rfl,ss,rfl,h4,h5,h3,nofun,λ_=>q]]]
def fFF(N:Cn)(d:Nat):Fv:=λus R=>∃t,us=[enc N t]/\ht t<=d/\aHg t/\R (.sh .no)
def mW:aQ ["term","part","fault"] ["term"] (aC kZ):={}
def aZa(F:Fun K "first_fault" "first_fault" kZ f fd)(c_first_fault:⇑(d+4) "first_fault" ["term"] (spV (fFF N d)))(D_inner:#v[v])(D_own_fault:lU P w K mg base N 4 "own_fault" (uN N)):↥(d+5) f fd ["term"] (spV (fFF N (d+1))):=by
 refine vfn F mW (λcdv A outer s H E hr=>(aD (cO Bc rfl #v[85] (cR (i:=1) mW.nd) (aD (aZ (i:=2) mW.nd (aL c_first_fault (hr.mono ∅) rfl (aB (aA 1) aF))) (aG (cB (yP (aA 2)) (aG (jH 2)) bA)))) (aG (aU (cC (aA 0) D_own_fault (hr.mono ∅)))))) ?_;rintro _ R ⟨t,rfl,hd,ok,q⟩;refine#[rfl,gF t #v[5] #[t,rfl,rfl,?_]];refine bG (λl ρ=>∃(ks:List Tm)(x y:Sl),l=ks.map (enc N)/\(∀k∈ks,k∈kids t)/\ρ=[.sh (enc N t),x,y]) ?_ ?_ #[kids t,_,_,rfl,λ_ h=>h,rfl]
 ·rintro ρ ⟨ks,x,y,el,hk,rfl⟩;exact gF t #v[5] #[t,rfl,rfl,ok,q]
 ·rintro u r ρ ⟨ks,x,y,el,hk,rfl⟩ ih;obtain⟨k,ks,rfl,rfl,rfl⟩:=List.map_eq_cons_iff.mp el.symm;have kk:=hk k Ah;exact#[k,rfl,yX t hd k kk,ok.kid kk,nofun,λ_=>ih _ #[ks,_,_,rfl,λj hj=>hk j (Af _ hj),rfl]]
def Ln(t:Tm)(n:Nat):Prop:=(n=1∨n=2∨n=3)/\(∀x∈raw t,x.2.length=n)/\∃ks:List Tk,ks.length<=3/\∀x∈raw t,x∈ks
def Ln.few(h:Ln t n):Few t:=let⟨ks,l,m⟩:=h.2.2;#[ks,∅,m]
def aAy(N:Cn)(d:Nat):Fv:=λus R=>∃t n,us=[enc N t]/\ht t<=d/\Ln t n/\∀s,s=.sh .no∨s=.sh (.n (n:Nat))->R s
abbrev aH0:List Str:=["term","counts"]
def xV:aQ ["term","counts"] ["term"] (aC qN):={}
def aHj(F:Fun K "lines_of" "lines_of" qN f fd)(D_takes:lU P w K mg base N (d+1) "takes" (sU N d))(T:Txt mg):↥(d+3) f fd ["term"] (spV (aAy N d)):=by
 refine vfn F xV (λcdv A outer s H E hr=>(aD (aZ (i:=1) xV.nd (aPr rfl T.sorted T.set (aJ (dR (own:=["take"]) (cap:=[]) (aC qN) aH0 rfl rfl (λx h=>aV h) #v[5] rfl (vic (aX (cC (aA 0) D_takes (hr.mono ∅)))) ↑(aW (i:=0) (~~~["take"]) rfl (Cv rfl) (Dc rfl)) (bC ⋯) ↑(aO aK bF T.len Br (aJ #v[t] aM))) aM))) (aD (cB (bK lF cU #v[23] aH) (aG jJ) bA) (aD (cB (bK #v[V] dD #v[23] aH) (aG (aU rM)) bA) (aG (aU (bH aY bI (aA 1) aH))))))) ?_;rintro _ R ⟨t,n,rfl,hd,ln,q⟩;refine#[rfl,gF t #v[5] #[t,rfl,rfl,hd,ln.few,λys ik=>?_]];have yl:=aDw ln.few ik;refine#[by rw[Ab];lia,cD (h:=λ_=> .n (n:Nat)) (λu hu k hk=>?_) ?_]
 ·obtain⟨y,hy,rfl⟩:=List.mem_map.mp hu;have e:=ln.2.1 y ((ik.2 y).mp hy);refine#[_,rfl,?_];show k (some (.n ((y.2.map U.n).length:Nat)));rw[Ab,e];exact hk
 ·refine#[ys.map λ_=>n,n,by rw[Au,Au];rfl,λm hm=>?_,by rcases ln.1 with rfl|rfl|rfl<;>decide,?_]
  ·obtain⟨_,_,rfl⟩:=List.mem_map.mp hm;rfl
  ·generalize decide (0<(ys.map λ_=>n).length)=b;cases b
   ·exact#[nofun,λ_=>#[trivial,trivial,λ_=>q _ (.inl rfl),nofun]]
   ·exact#[nofun,λ_=>#[trivial,trivial,nofun,λ_=>#[_,rfl,q _ (.inr rfl)]]]
def aJk(N:Cn)(d:Nat):Fv:=λus R=>∃t n,us=[enc N t]/\ht t<=d/\aHg t/\rF t<=60/\Ln t n/\R (.sh .no)
def tQ:aQ ["term","fault"] ["term"] (aC qJ):={}
def aKs(F:Fun K "check_term" "check_term" qJ f fd)(d12:d<=12)(c_first_fault:⇑(d+4) "first_fault" ["term"] (spV (fFF N d)))(c_lines_of:⇑(d+3) "lines_of" ["term"] (spV (aAy N d)))(D_takes:lU P w K mg base N (d+1) "takes" (sU N d))(D_depth:lU P w K mg base N (d+1) "depth" (aEi N ht d))(D_parts:lU P w K mg base N (d+1) "parts" (aEi N rF d))(T:Txt mg):↥(d+5) f fd ["term"] (spV (aJk N d)):=by
 obtain⟨_,g_MOST_DEPTH⟩:=T.c_MOST_DEPTH;obtain⟨_,g_MOST_PARTS⟩:=T.c_MOST_PARTS;obtain⟨_,g_MOST_TAKES⟩:=T.c_MOST_TAKES;refine vfn F tQ (λcdv A outer s H E hr=>(aD (aZ (i:=1) tQ.nd (aL c_first_fault (hr.mono ∅) rfl (aB (aA 0) aF))) (aD (cB (yP (aA 1)) (aG jJ) bA) (aD (aYf (aL c_lines_of (hr.mono ∅) rfl (aB (aA 0) aF))) (aD (cB (bK lF cU (cC (aA 0) D_depth (hr.mono ∅)) (dB g_MOST_DEPTH)) (aG jJ) bA) (aD (cB (bK lF cU (cC (aA 0) D_parts (hr.mono ∅)) (dB g_MOST_PARTS)) (aG jJ) bA) (aG (cB (bK lF cU (aO aK bF T.len Br (aJ (cC (aA 0) D_takes (hr.mono ∅)) aM)) (dB g_MOST_TAKES)) (aG jJ) bA)))))))) ?_;rintro _ R ⟨t,n,rfl,hd,ok,hp,ln,q⟩;refine#[rfl,t,rfl,hd,ok,nofun,λ_=>?_];refine#[t,n,rfl,hd,ln,λ_ _=>?_];refine gF t #v[5] #[t,rfl,rfl,hd,∅,λz=>?_,λ_=>?_]
 ·have:=of_decide_eq_true z
  lia
 refine gF t #v[5] #[t,rfl,rfl,hd,∅,λz=>?_,λ_=>?_]
 ·have:=of_decide_eq_true z
  lia
 refine gF t #v[5] #[t,rfl,rfl,hd,ln.few,λys ik=>#[λz=>?_,λ_=>q]];have:=of_decide_eq_true z;obtain⟨ks,kl,km⟩:=ln.2.2;have h2:=(aCm ik.1).length_le_of_subset (l₂:=ks) λx hx=>km x ((ik.2 x).mp hx);rw[Ab]at this
 lia
def GoodR(n:Int)(m:Int)(l:List Int):Prop:=(l.length:Int)=n/\l.length<=40/\∀x∈l,0<=x/\x<m
def aQi:Fv:=λus R=>∃(l:List Int)(n m:Int),us=[.ls (l.map U.n),.n n,.n m]/\GoodR n m l/\R #v[x]
abbrev aNx:List Str:=["thing","many","modulus"]
def aK2:aQ ["thing","many","modulus"] ["thing","many","modulus"] (aC vP):={}
def aPw(F:Fun K "is_row" "is_row" vP f fd)(c_is_within:#v[i])(T:Txt mg):↥3 f fd ["thing","many","modulus"] (spV aQi):=by
 refine vfn F aK2 (λcdv A outer s H E hr=>(aD (cB (iD (jA #v[19] (fB (bK (lM (huD hr)) dD #v[a] (aA 1))))) #v[61] bA) (aG (aU (aO jQ (qY rfl) T.all Kw (aJ (dR (own:=["worth"]) (cap:=[("modulus",2)]) (aC vP) aNx rfl rfl (λx h=>aV h) #v[5] rfl (vic (aX (aA 0))) ↑(aW (i:=0) (~~~["worth","modulus"]) rfl (Cv rfl) (Dc rfl)) (bC ⋯) ↑#v[Y]) aM)))))) ?_;rintro _ R ⟨l,n,m,rfl,⟨h1,h2,h3⟩,q⟩;refine#[rfl,_,rfl,nofun,λ_=>#[trivial,trivial,λz=>?_,λ_=>?_]]
 ·simp[U.eq,U.d,D.eq,eqV,Sl.rd,h1]at z
 ·refine#[by rw[Ab];lia,cD (h:=λ_=> .b true) (λu hu k hk=>?_) #[l.map λ_=>true,by rw[Au,Au];rfl,Rbl q (by simp)]];obtain⟨x,hx,rfl⟩:=List.mem_map.mp hu;have:=h3 x hx;refine#[_,_,_,_,rfl,rfl,?_];show k (some (.b (isIn (.n x) 0 (m-1))));rw[show isIn (.n x) 0 (m-1)=true by simp[isIn,this.1];lia];exact hk
def pG(ls:#v[z]):List U:=ls.map λl=> .ls (l.map U.n)
def aFy:Fv:=λus R=>∃(ls:#v[z])(k n m:Int),us=[.ls (pG ls),.n k,.n n,.n m]/\(ls.length:Int)=k/\ls.length<=3/\(∀l∈ls,GoodR n m l)/\R #v[x]
abbrev aG8:List Str:=["thing","deep","many","modulus"]
def aF7:aQ ["thing","deep","many","modulus"] ["thing","deep","many","modulus"] (aC qF):={}
def aIg(F:Fun K "are_rows" "are_rows" qF f fd)(c_is_row:⇑3 "is_row" ["thing","many","modulus"] (spV aQi))(T:Txt mg):↥4 f fd ["thing","deep","many","modulus"] (spV aFy):=by
 refine vfn F aF7 (λcdv A outer s H E hr=>(aD (cB (iD (jA #v[19] (fB (bK (lM (huD hr)) dD #v[a] (aA 1))))) #v[61] bA) (aG (aU (aO jQ (qY rfl) T.all Kw (aJ (dR (own:=["row"]) (cap:=[("many",2),("modulus",3)]) (aC qF) aG8 rfl rfl (λx h=>aV h) #v[5] rfl (vic (aX (aA 0))) ↑(aW (i:=0) (~~~["row","many","modulus"]) rfl (Cv rfl) (Dc rfl)) (bC ⋯) ↑(aL c_is_row (hr.mono ⋯) rfl (aB (aA 0) (aB (aA 1) (aB (aA 2) aF))))) aM)))))) ?_;rintro _ R ⟨ls,k,n,m,rfl,h1,h2,h3,q⟩;have e1:(pG ls).length=ls.length:=Ab ..;refine#[rfl,_,rfl,nofun,λ_=>#[trivial,trivial,λz=>?_,λ_=>?_]]
 ·simp[U.eq,U.d,D.eq,eqV,Sl.rd,h1,e1]at z
 ·refine#[∅,cD (h:=λ_=> .b true) (λu hu k hk=>?_) #[ls.map λ_=>true,by unfold pG;rw[Au,Au];rfl,Rbl q (by simp)]];obtain⟨x,hx,rfl⟩:=List.mem_map.mp hu;exact#[x,n,m,rfl,h3 x hx,hk]
def dpt(ys:List Tk):Int:=if ys=[]then 1 else ys.foldl (λm y=>max m y.1) 0
def aN1(hp:∀y∈ys,0<=y.1)(hm:m∈ys.map (·.1))(ha:∀a∈ys.map (·.1),a<=m):dpt ys=m:=by
 have key:∀(l:List Tk)(a:Int),(∀y∈l,y.1<=m)->a<=m->l.foldl (λm y=>max m y.1) a<=m/\a<=l.foldl (λm y=>max m y.1) a/\∀y∈l,y.1<=l.foldl (λm y=>max m y.1) a:=by
  intro l;induction l with
  |nil=>exactλa _ h=>#[h,Int.le_refl _,λ_ z=>nomatch z]
  |cons x l ih=>
   intro a h1 h2;have hx:=h1 x Ah;obtain⟨g1,g2,g3⟩:=ih (max a x.1) (λy hy=>h1 y (Af _ hy)) ∅;refine#[g1,by rw[Jh];lia,λy hy=>?_];rw[Jh];rcases List.mem_cons.mp hy with rfl|hy
   ·lia
   ·exact g3 y hy
 obtain⟨y,hy,rfl⟩:=List.mem_map.mp hm;have h0:=hp y hy;obtain⟨g1,g2,g3⟩:=key ys 0 (λz hz=>ha _ (List.mem_map.mpr #[z,hz,rfl])) h0;unfold dpt;rw[if_neg (by intro z;rw[z]at hy;cases hy)];have:=g3 y hy
 lia
def aUh(C:Addr):Fv:=λus R=>∃(ys:List Tk)(ns:List Str)(ws:List U),us=[.ob C ("taken"::ns) (.ls #v[46]::ws)]/\ys.length<=17/\(∀y∈ys,0<=y.1)/\R (.sh (.n (dpt ys)))
abbrev aIl:List Str:=["self"]
def aE6:aQ ["self"] ["self"] (aC qX):={}
def aR8(F:Fun K "deep" "Job.deep" qX f fd)(cJ:Cfl K C ["taken"])(T:Txt mg):↥1 f fd ["self"] (spV (aUh C)):=by
 refine vfn F aE6 (λcdv A outer s H E hr=>(aG (aU (uW rfl T.max (aJ (dR (own:=["take"]) (cap:=[]) (aC qX) aIl rfl rfl (λx h=>aV h) #v[5] rfl (vic (aX (dW cJ (aA 0)))) ↑(aW (i:=0) (~~~["take"]) rfl (Cv rfl) (Dc rfl)) (bC ⋯) ↑#v[t]) aM) aH)))) ?_;rintro _ R ⟨ys,ns,ws,rfl,yl,hp,q⟩;have e:#v[46].map (λu=>match u with|.tp (x::_)=>x|u=>u)=(ys.map (·.1)).map U.n:=by rw[Au,Au];rfl
 refine#[rfl,rfl,.inl #[rfl,by rw[Ab];lia,cD (h:=λu=>match u with|.tp (x::_)=>x|u=>u) (λu hu k hk=>?_) ?_]]
 ·obtain⟨y,hy,rfl⟩:=List.mem_map.mp hu;exact#[_,rfl,hk]
 ·rw[Bd,e];refine#[_,rfl,λz=>?_,λm hm ha=>?_]
  ·have z:=List.map_eq_nil_iff.mp z;subst z;exact q
  ·rw[aN1 hp hm ha]at q;exact q
inductive aJi(us:List U)(R:(List Str->List U->Prop)):Prop
 |mk (ns:List Int) (rs:List Rim) (q0_:us=[.ls #v[w],.ls (rs.map Rim.u)]) (q1_:iZ ns) (q2_:rs.length=ns.length) (q3_:(∀r∈rs,r.ok)) (q4_:R ["sizes","rims"] [.ls #v[w],.ls (rs.map Rim.u)]):aJi us R
def aHo:List U->(List Str->List U->Prop)->Prop:=λus R=>aJi us R
def zE(ns:List Int):U.dts 5 #v[w]:=by
 induction ns with
 |nil=>trivial
 |cons r rs ih=>exact#[trivial,ih]
def aTi(rs:List Rim):U.dts 5 (rs.map Rim.u):=by
 induction rs with
 |nil=>trivial
 |cons r rs ih=>exact#[by cases r<;>first|exact#[trivial,trivial]|exact#[trivial,trivial,trivial],ih]
def wG:aQ ["self","sizes","rims"] ["self","sizes","rims"] (aC lR):={}
def aNv(F:Fun K "__init__" "Grid.__init__" lR f fd)(cG:Cfl K C ["sizes","rims"])(c_check_lines:⇑4 "check_lines" ["sizes","rims"] (spV aO1))(c_product:⇑1 "product" ["sizes"] (spV aM3))(T:Txt mg):↥5 f fd ["self","sizes","rims"] (spI C aHo):=by
 obtain⟨_,g_MOST_PLACES⟩:=T.c_MOST_PLACES;refine F.ok wG (λvs H Q E h=>?_) (λcdv A outer s H vs Q E hr h=>?_)
 ·obtain⟨x,dx,vs',H1,W,B,us,R,rfl,_,_,_,_,ds,⟨ns,rs,rfl,_⟩,_⟩:=h;rw[Am, <-ds.length];rfl
 ·obtain⟨x,dx,vs',H1,W,B,us,R,rfl,n1,hx,s1,eb,ds,⟨ns,rs,rfl,g,el,rk,hR⟩,q⟩:=h;obtain⟨v1,_,rfl,d1,v2,r,rfl,d2,dr⟩:=ds;obtain rfl:r=[]:=dr;have ee:∀{H'},Fw W H1 H'->EE W B H' [.no,.sh (.ls #v[w]),.sh (.ls (rs.map Rim.u))] [some (.ref x),some v1,some v2]:=λfw=>nZ (fM (DU.mono #v[93] _ d1) (fM (DU.mono #v[93] _ d2) (aHp (eb.to fw))));have nw:¬W x:=λz=>eb.dm x (eb.wb x z) n1;have nB:¬B x:=eb.nw n1;refine#[_,(bB (qW (VE.can (aL c_check_lines (hr.mono ⋯) rfl (aB (aA 1) (aB (aA 2) aF))))) (bB (pW (VC.can (bK lF cU (aL c_product (hr.mono ⋯) rfl (aB (aA 1) aF)) (dB g_MOST_PLACES))) (cW gA) gC) (bB (eZ (pv 0) (VE.can (dC (eG rfl) lC T.list Ew (aJ (aA 1) aM))) rfl) (cW (eZ (pv 0) (VE.can (dC (eG rfl) lC T.list Ew (aJ (aA 2) aM))) rfl))))),?_];have f0:=eb.same s1;refine sI (R:=λ_=>True) (ee f0) #[ns,rs,rfl,g.ok,g.l1,g.l3,el,rk,trivial] λs v H2 _ w2 _=>?_;have f2:=f0.trans w2;refine pB (R:=λc=>c=false) (ee f2) #[ns,rfl,g.ok,g.l3,decide_eq_false (by have:=g.mn;lia)] λc H3 hc w3=>?_;subst hc;refine rG ?_;have f3:=f2.trans w3;have hx3:H3 x=some (.ins C dx []):=w3.fr _ _ nw (w2.fr _ _ nw hx);refine sI (R:=λs=>s=.ow #v[w]) (ee f3) rfl λs v4 H4 hs w4 r4=>?_;subst hs;obtain⟨p4,x4,rfl,n4,h4,d4⟩:=r4;have f4:=f3.trans w4;have hx4:=w4.fr _ _ nw hx3;refine#[_,rfl,x,C,dx,_,rfl,hx4,cG.cl,cG.na _ (by simp),⋯,?_];have f5:=f4.upd (o:=.ins C dx (lE "sizes" (.ref p4) [])) n1 nw;have hx5:upd H4 x (.ins C dx (lE "sizes" (.ref p4) [])) x=_:=aP;have h5:=eU (B:=B) (o:=.ins C dx (lE "sizes" (.ref p4) [])) hx4 p4 _ (λz=>(eb.to f3).dm p4 z n4) h4 (.inr #[_,rfl]);have d5:=DUs.data (eU (o:=.ins C dx (lE "sizes" (.ref p4) [])) hx4) 5 _ (zE ns) d4.less;revert f5 hx5 h5 d5;generalize upd H4 x (.ins C dx (lE "sizes" (.ref p4) []))=H5;intro f5 hx5 h5 d5;refine sI (R:=λs=>s=.ow (rs.map Rim.u)) (ee f5) rfl λs v6 H6 hs w6 r6=>?_;subst hs;obtain⟨p6,x6,rfl,n6,h6,d6⟩:=r6;have hx6:=w6.fr _ _ nw hx5;refine#[_,rfl,x,C,dx,_,rfl,hx6,cG.cl,cG.na _ (by simp),by show(1:Nat)<1000;decide,?_];have e6:=eb.to (f5.trans w6);refine q ["sizes","rims"] _ [.ref p4,.ref p6] _ hR ((f5.trans w6).upd n1 nw) aP rfl #[_,_,rfl,#[p4,x4,rfl,(eb.to f3).nw n4,?_,?_],_,_,rfl,#[p6,x6,rfl,(eb.to f5).nw n6,?_,?_],rfl]
  ·exact eU (B:=B) hx6 p4 _ ((eb.to f3).nw n4) (w6.fr _ _ (λz=>(eb.to f3).nw n4 (eb.wb _ z)) h5) (.inr #[_,rfl])
  ·exact DUs.data (eU hx6) 5 _ (zE ns) (DUs.mono ((eb.to f5).keep w6) _ d5)
  ·exact eU (B:=B) hx6 p6 _ ((eb.to f5).nw n6) h6 (.inr #[_,rfl])
  ·exact DUs.data (eU hx6) 5 _ (aTi rs) d6.less
def rH(N:Cn)(CG CJ:Addr)(ns:List Int)(rs:List Rim)(t:Tm)(ys:List Tk)(m r:Int)(ls:#v[z]):U:=.ob CJ ["taken","grid","term","modulus","rounds","first"] [.ls #v[46],grU CG ns rs,enc N t,.n m,.n r,.ls (pG ls)]
structure aT3(ns:List Int)(rs:List Rim)(t:Tm)(m r:Int)(ls:#v[z]):Prop where
 gs:iZ ns
 el:rs.length=ns.length
 rk:∀x∈rs,x.ok
 hd:ht t<=8
 ok:aHg t
 pr:rF t<=60
 ln:Ln t ns.length
 m2:2<=m/\m<=1000000000
 r0:0<=r/\r<=12
 rm:r*oF ns<=120
 dp:∀ys,uX t ys->(ls.length:Int)=dpt ys
 l3:ls.length<=3
 rw_:∀l∈ls,GoodR (oF ns) m l
inductive aJm(N:Cn)(CG:Addr)(us:List U)(R:(List Str->List U->Prop)):Prop
 |mk (ns:List Int) (rs:List Rim) (t:Tm) (m r:Int) (ls:#v[z]) (q0_:us=[grU CG ns rs,enc N t,.n m,.n r,.ls (pG ls)]) (q1_:aT3 ns rs t m r ls) (q2_:∀ys,uX t ys->R ["taken","grid","term","modulus","rounds","first"] [.ls #v[46],grU CG ns rs,enc N t,.n m,.n r,.ls (pG ls)]):aJm N CG us R
def aIk(N:Cn)(CG:Addr):List U->(List Str->List U->Prop)->Prop:=λus R=>aJm N CG us R
def aQ8(ls:#v[z]):U.dts 6 (pG ls):=by
 induction ls with
 |nil=>trivial
 |cons l ls ih=>exact#[zE l,ih]
def aPj(ys:List Tk):U.dts 7 #v[46]:=by
 induction ys with
 |nil=>trivial
 |cons y ys ih=>exact#[#[trivial,zE y.2,trivial],ih]
def bBy(i j:Int):U.eq (.n i) (.n j)=(i==j):=rfl
abbrev zU:List Str:=["self","grid","term","modulus","rounds","first"]
def yM:aQ ["self","grid","term","modulus","rounds","first"] ["self","grid","term","modulus","rounds","first"] (aC jO):={}
def aPf(F:Fun K "__init__" "Job.__init__" jO f fd)(cJ:#v[71])(c_check_term:⇑13 "check_term" ["term"] (spV (aJk N 8)))(c_lines_of:⇑11 "lines_of" ["term"] (spV (aAy N 8)))
  (c_is_within:#v[i]) (c_are_rows:⇑4 "are_rows" ["thing","deep","many","modulus"] (spV aFy)) (D_takes:lU P w K mg base N 9 "takes" (sU N 8)) (D_lines:Dis P w K mg base CX0 1 (·=CG) "lines" ["self"] λ_=>spV (aHf CG)) (D_places_many:Dis P w K mg base CX0 2 (·=CG) "places_many" ["self"] λ_=>spV (aTs CG)) (D_deep:Dis P w K mg base CX0 1 (·=CJ) "deep" ["self"] λ_=>spV (aUh CJ)) (T:Txt mg):↥14 f fd ["self","grid","term","modulus","rounds","first"] (spI CJ (aIk N CG)):=by
 obtain⟨_,g_GREATEST_MODULUS⟩:=T.c_GREATEST_MODULUS;obtain⟨_,g_MOST_ROUNDS⟩:=T.c_MOST_ROUNDS;obtain⟨_,g_MOST_SPOTS⟩:=T.c_MOST_SPOTS;refine F.ok yM (λvs H Q E h=>?_) (λcdv A outer s H vs Q E hr h=>?_)
 ·obtain⟨x,dx,vs',H1,W,B,us,R,rfl,_,_,_,_,ds,⟨ns,rs,t,m,r,ls,rfl,_⟩,_⟩:=h;rw[Am, <-ds.length];rfl
 ·obtain⟨x,dx,vs',H1,W,B,us,R,rfl,n1,hx,s1,eb,ds,⟨ns,rs,t,m,r,ls,rfl,g,hR⟩,q⟩:=h;obtain⟨v1,_,rfl,d1,v2,_,rfl,d2,v3,_,rfl,d3,v4,_,rfl,d4,v5,r5,rfl,d5,dr⟩:=ds;obtain rfl:r5=[]:=dr;have ee:∀{H' s0},Fw W H1 H'->EE W B H' [s0,.sh (grU CG ns rs),.sh (enc N t),.sh (.n m),.sh (.n r),.sh (.ls (pG ls))] [some (.ref x),some v1,some v2,some v3,some v4,some v5]->EE W B H' [s0,.sh (grU CG ns rs),.sh (enc N t),.sh (.n m),.sh (.n r),.sh (.ls (pG ls))] [some (.ref x),some v1,some v2,some v3,some v4,some v5]:=λ_ e=>e;have et:∀{H'},Fw W H1 H'->EE W B H' [.sh (grU CG ns rs),.sh (enc N t),.sh (.n m),.sh (.n r),.sh (.ls (pG ls))] [some v1,some v2,some v3,some v4,some v5]:=λfw=>fM (DU.mono #v[93] _ d1) (fM (DU.mono #v[93] _ d2) (fM d3 (fM d4 (fM (DU.mono #v[93] _ d5) (aHp (eb.to fw))))));have nw:¬W x:=λz=>eb.dm x (eb.wb x z) n1;refine#[_,(bB (qW (VE.can (aL c_check_term (hr.mono ⋯) rfl (aB (aA 2) aF)))) (bB (pW (VC.can (bK (aBw (huD hr)) aP9 (aL c_lines_of (hr.mono ⋯) rfl (aB (aA 2) aF)) (dM (aB rM (aB (cC (aA 1) D_lines (hr.mono ⋯)) aF))))) (cW gA) gC) (bB (pW (VC.can (cH (cI (aL c_is_within (hr.mono ⋯) rfl (aB (aA 3) (aB aH (aB (dB g_GREATEST_MODULUS) aF))))))) (cW gA) gC) (bB (pW (VC.can (iD (jA (cH (cI (aL c_is_within (hr.mono ⋯) rfl (aB (aA 4) (aB aH (aB (dB g_MOST_ROUNDS) aF)))))) (fB (bK lF cU (cT oY aGd (aA 4) (cC (aA 1) D_places_many (hr.mono ⋯))) (dB g_MOST_SPOTS)))))) (cW gA) gC) (bB (eZ (pv 0) (VE.can (cC (aA 2) D_takes (hr.mono ⋯))) rfl) (bB (pW (VC.can (cH (cI (aL c_are_rows (hr.mono ⋯) rfl (aB (aA 5) (aB (cC (aA 0) D_deep (hr.mono ⋯)) (aB (cC (aA 1) D_places_many (hr.mono ⋯)) (aB (aA 3) aF)))))))) (cW gA) gC) (bB (eZ (pv 0) (pv 1) rfl) (bB (eZ (pv 0) (pv 2) rfl) (bB (eZ (pv 0) (pv 3) rfl) (bB (eZ (pv 0) (pv 4) rfl) (cW (eZ (pv 0) (VE.can (dR (own:=["row"]) (cap:=[]) (aC jO) zU rfl rfl (λx h=>aV h) #v[5] rfl (vic (aX (aA 5))) ↑(aW (i:=0) (~~~["row"]) rfl (Cv rfl) (Dc rfl)) (bC ⋯) ↑#v[69])) rfl)))))))))))),?_];have f0:=eb.same s1;refine sI (R:=λ_=>True) (nZ (et f0)) #[t,_,rfl,g.hd,g.ok,g.pr,g.ln,trivial] λs v H2 _ w2 _=>?_;have f2:=f0.trans w2;refine pB (R:=λc=>c=false) (nZ (et f2)) #[t,_,rfl,g.hd,g.ln,λs hs=>?_] λc H3 hc w3=>?_
  ·rcases hs with rfl|rfl
   ·exact#[rfl,rfl,ns,rs,rfl,trivial,#[trivial,trivial,trivial],rfl]
   ·refine#[rfl,rfl,ns,rs,rfl,trivial,#[trivial,trivial,trivial],?_];simp[bBy,Sl.rd]
  subst hc;refine rG ?_;have f3:=f2.trans w3;refine pB (R:=λc=>c=false) (nZ (et f3)) #[_,_,_,_,rfl,rfl,?_] λc H4 hc w4=>?_
  ·show(!isIn (.n m) 2 1000000000)=false;simp[isIn,g.m2.1,g.m2.2]
  subst hc;refine rG ?_;have f4:=f3.trans w4;refine pB (R:=λc=>c=false) (nZ (et f4)) #[_,_,_,_,rfl,rfl,λz=>?_,λ_=>#[rfl,rfl,ns,rs,rfl,g.gs,?_]] λc H5 hc w5=>?_
  ·simp[isIn,g.r0.1,g.r0.2]at z
  ·refine#[.inl #[by have:=g.r0;lia,by have:=g.r0;lia],?_];exact decide_eq_false (by have:=g.rm;lia)
  subst hc;refine rG ?_;have f5:=f4.trans w5;have hx5:H5 x=some (.ins CJ dx []):=w5.fr _ _ nw (w4.fr _ _ nw (w3.fr _ _ nw (w2.fr _ _ nw hx)));refine sI (R:=λs=>∃ys,uX t ys/\s=.ow #v[46]) (nZ (et f5)) (gF t #v[5] #[t,rfl,rfl,g.hd,g.ln.few,λys hy=>#[ys,hy,rfl]]) λs v6 H6 hs w6 r6=>?_;obtain⟨ys,hy,rfl⟩:=hs;obtain⟨p6,x6,rfl,n6,h6,d6⟩:=r6;have f6:=f5.trans w6;have hx6:=w6.fr _ _ nw hx5;have nB6:¬B p6:=(eb.to f5).nw n6;refine#[_,rfl,x,CJ,dx,_,rfl,hx6,cJ.cl,cJ.na _ (by simp),⋯,?_];have f7:=f6.upd (o:=.ins CJ dx (lE "taken" (.ref p6) [])) n1 nw;have hx7:upd H6 x (.ins CJ dx (lE "taken" (.ref p6) [])) x=_:=aP;have h7:=eU (B:=B) (o:=.ins CJ dx (lE "taken" (.ref p6) [])) hx6 p6 _ nB6 h6 (.inr #[_,rfl]);have d7:=DUs.data (eU (o:=.ins CJ dx (lE "taken" (.ref p6) [])) hx6) 7 _ (aPj ys) d6.less;revert f7 hx7 h7 d7;generalize upd H6 x (.ins CJ dx (lE "taken" (.ref p6) []))=H7;intro f7 hx7 h7 d7;have yl:ys.length<=17:=by have:=aDw g.ln.few hy;lia
  have yp:∀y∈ys,0<=y.1:=λy h=>by have:=(g.ok.2 y ((hy.2 y).mp h)).1.1;lia
  have dJ:DU W B H7 (.ob CJ ["taken"] [.ls #v[46]]) (.ref x):=#[x,dx,[.ref p6],rfl,eb.nw n1,hx7,rfl,_,_,rfl,#[p6,x6,rfl,nB6,h7,d7],rfl];refine pB (R:=λc=>c=false) (fM dJ (et f7)) #[rfl,rfl,ys,[],[],rfl,yl,yp,rfl,rfl,ns,rs,rfl,g.gs,ls,_,_,_,rfl,g.dp ys hy,g.l3,g.rw_,rfl] λc H8 hc w8=>?_;subst hc;refine rG ?_;have step:∀{H fs fs'},(Fw W H1 H/\H x=some (.ins CJ dx fs)/\DU W B H (.ls #v[46]) (.ref p6))->(Fw W H1 (upd H x (.ins CJ dx fs'))/\upd H x (.ins CJ dx fs') x=some (.ins CJ dx fs')/\DU W B (upd H x (.ins CJ dx fs')) (.ls #v[46]) (.ref p6)):=λ⟨a,b,c⟩=>#[a.upd n1 nw,aP,DU.data (eU b) 8 _ (aPj ys) c];have k8:Fw W H1 H8/\H8 x=some (.ins CJ dx [("taken",.ref p6)])/\DU W B H8 (.ls #v[46]) (.ref p6):=#[f7.trans w8,w8.fr _ _ nw hx7,DU.mono ((eb.to f7).keep w8) _ #[p6,x6,rfl,nB6,h7,d7]];have fl:∀{k:Nat},k<=6->k<1000:=λh=>by lia
  refine#[_,rfl,_,rfl,x,CJ,dx,_,rfl,k8.2.1,cJ.cl,cJ.na _ (by simp),fl (by show(1:Nat)<=6;decide),?_];have k9:=step (fs':=[("taken",.ref p6),("grid",v1)]) k8;refine#[_,rfl,_,rfl,x,CJ,dx,_,rfl,k9.2.1,cJ.cl,cJ.na _ (by simp),fl (by show(2:Nat)<=6;decide),?_];have k10:=step (fs':=[("taken",.ref p6),("grid",v1),("term",v2)]) k9;refine#[_,rfl,_,rfl,x,CJ,dx,_,rfl,k10.2.1,cJ.cl,cJ.na _ (by simp),fl (by show(3:Nat)<=6;decide),?_];have k11:=step (fs':=[("taken",.ref p6),("grid",v1),("term",v2),("modulus",v3)]) k10;refine#[_,rfl,_,rfl,x,CJ,dx,_,rfl,k11.2.1,cJ.cl,cJ.na _ (by simp),fl (by show(4:Nat)<=6;decide),?_];have k12:=step (fs':=[("taken",.ref p6),("grid",v1),("term",v2),("modulus",v3),("rounds",v4)]) k11;refine sI (R:=λs=>s=.ow (pG ls)) (nZ (et k12.1)) #[by have:=g.l3;show(pG ls).length<=_;unfold pG;rw[Ab];lia,cD (h:=id) (λu hu k hk=>?_) (by rw[Bd,Je])] λs v13 H13 hs w13 r13=>?_
  ·obtain⟨l,_,rfl⟩:=List.mem_map.mp hu;exact hk
  subst hs;obtain⟨p13,x13,rfl,n13,h13,d13⟩:=r13;have f13:=k12.1.trans w13;have nB13:¬B p13:=(eb.to k12.1).nw n13;have k13:Fw W H1 H13/\H13 x=some (.ins CJ dx [("taken",.ref p6),("grid",v1),("term",v2),("modulus",v3),("rounds",v4)])/\DU W B H13 (.ls #v[46]) (.ref p6):=#[f13,w13.fr _ _ nw k12.2.1,DU.mono ((eb.to k12.1).keep w13) _ k12.2.2];refine#[_,rfl,x,CJ,dx,_,rfl,k13.2.1,cJ.cl,cJ.na _ (by simp),fl (by show(5:Nat)<=6;decide),?_];have k14:=step (fs':=[("taken",.ref p6),("grid",v1),("term",v2),("modulus",v3),("rounds",v4),("first",.ref p13)]) k13;have fin:=λu{v:V}(d:DU W B H1 u v)=>DU.mono (eb.keep k14.1) u d;exact q _ _ [.ref p6,v1,v2,v3,v4,.ref p13] _ (hR ys hy) k14.1 aP rfl #[_,_,rfl,k14.2.2,_,_,rfl,fin _ d1,_,_,rfl,fin _ d2,_,_,rfl,fin _ d3,_,_,rfl,fin _ d4,_,_,rfl,#[p13,x13,rfl,nB13,eU (B:=B) k13.2.1 p13 _ nB13 h13 (.inr #[_,rfl]),DUs.data (eU k13.2.1) 6 _ (aQ8 ls) d13.less],rfl]
def aYc{c:Bool}{a b:Prop}(h:c=true)(x:a):if c=true then a else b:=by rw[if_pos h];exact x
def bAj{c:Bool}{a b:Prop}(h:c=false)(x:b):if c=true then a else b:=by rw[if_neg (by rw[h];exact An)];exact x
def aH1(K:Ad)(ns:List Int):Opq where
 φ:=λ_ B H v=>∃a,v=.ref a/\((¬B a/\Rd H a (.lst #v[M]))∨∀H',SqL K H' a #v[M])
 mono:=λk ⟨a,e,h⟩=>by
  rcases h with ⟨nb,h|⟨o,h⟩⟩|h
  ·exact#[a,e,.inl #[(k _ _ nb h).1,.inl (k _ _ nb h).2]]
  ·exact#[a,e,.inl #[(k _ _ nb h).1,.inr #[o,(k _ _ nb h).2]]]
  ·exact#[a,e,.inr h]
 wm:=λ_ h=>h
def aU0(K:Ad):Fv:=λus R=>∃(ns:List Int)(k:Nat),us=[.op (aH1 K ns),.n (k:Int)]/\∀n:Int,R (.sh (.n n))
def aY4(x:Int): -(2 ^ 64)<x % 2147483647/\x % 2147483647<2 ^ 64:=by lia
def DUs.two(h:DUs W B H [u,v] vs):∃x y,vs=[x,y]/\DU W B H u x/\DU W B H v y:=by
 obtain⟨x,_,rfl,d1,y,r,rfl,d2,e⟩:=h;obtain rfl:r=[]:=e;exact#[x,y,rfl,d1,d2]
def yL:aQ ["_law_script","_law_k"] ["_law_script","_law_k"] (aC nC):={}
def aQ4(F:Fun K "_law_cell_at" "_law_cell_at" nC f fd)(T:Txt mg):↥1 f fd ["_law_script","_law_k"] (spV (aU0 K)):=by
 refine F.ok yL (λvs H Q E h=>?_) (λcdv A outer s H vs Q E hr h=>?_)
 ·obtain⟨W,B,us,R,eb,ds,⟨ns,k,rfl,_⟩,_⟩:=h;rw[<-ds.length];rfl
 ·obtain⟨W,B,us,R,eb,ds,⟨ns,k,rfl,hR⟩,q⟩:=h;obtain⟨x,y,rfl,⟨a,rfl,hs⟩,⟨rfl,_⟩⟩:=DUs.two ds;have hS:SqL K H a #v[M]:=hs.elim (λh=> .inl h.2) λh=>h H;have q':∀n:Int,Q (.int n) H:=λn=>q _ _ _ (hR n) eb.refl #[rfl,rfl];refine#[_,(bB (pW (aCy aGa (pv 1) (iH aK (by rfl) T.len PySem.boot_len (bZ (pv 0) dN)) (aEd _)) (cW (wW (tR lA (pv 0) (pv 1) (λ_ _=>rfl)))) gC) (cW (wW dU))),?_];refine#[_,rfl,_,rfl,a,_,rfl,.inl hS,_,_,rfl,rfl,_,rfl,?_];by_cases h:k<ns.length
  ·refine aYc (decide_eq_true (by rw[Ab];lia)) ?_;exact#[_,rfl,_,rfl,a,_,_,_,rfl,rfl,hS,bQ (show#v[M][k]? =some (.int ns[k]) by rw[Ay,Ag h];rfl),q' _]
  ·exact bAj (decide_eq_false (by rw[Ab];lia)) (q' 0)
def aEt:Fv:=λus R=>∃m:Int,us=[.wl,.n m]/\0<m/\m<2 ^ 62/\∀r:Int,0<=r->r<m->R (.sh (.n r))
def mR:aQ ["_law_tape_here","_law_many","_law_number"] ["_law_tape_here","_law_many"] (aC rO):={}
def aTh(F:Fun K "_law_draw" "_law_draw" rO f fd):↥1 f fd ["_law_tape_here","_law_many"] (spV aEt):=by
 refine F.ok mR (λvs H Q E h=>?_) (λcdv A outer s H vs Q E hr h=>?_)
 ·obtain⟨W,B,us,R,eb,ds,⟨m,rfl,_⟩,_⟩:=h;rw[<-ds.length];rfl
 ·obtain⟨W,B,us,R,eb,ds,⟨m,rfl,hm,hm2,hR⟩,q⟩:=h;obtain⟨v1,v2,rfl,⟨a,rfl,wa⟩,⟨rfl,_⟩⟩:=DUs.two ds;obtain⟨x,y,z,ha⟩:=eb.wo a wa;have up:∀(x y z:Int),Fw W H (upd H a (.lst [.int x,.int y,.int z])):=λx y z=>⟨λb o nw h=>(aN (λe:b=a=>nw (by rw[e];exact wa))).trans h,λp hp=>by
   by_cases e:p=a
   ·exact#[x,y,z,by rw[e,aP]]
   ·obtain⟨x',y',z',h⟩:=eb.wo p hp;exact#[x',y',z',(aN e).trans h]⟩
  have fin:∀(t:Int)(H':Hp),Fw W H H'->Q (.int (t % m)) H':=λt H' fw=>q _ _ _ (hR (t % m) (Oe t ∅) (Me t hm)) fw #[rfl,rfl];refine#[_,(bB (pW (aCy lF #v[39] dU (aEd _)) (bB (zY (i:=2) mR.nd rfl (Cv rfl) (jU wN #v[39] (pv 1))) (bB (aD2 (jU aAq #v[39] (pv 1)) (aIo (pv 0) dU set_list)) (cW (wW (pv 2))))) gC) (bB (aD2 (jU xO #v[39] dU) (aIo (pv 0) dU set_list)) (bB (zY (i:=2) mR.nd rfl (Cv rfl) (jU wN (jU oY (jU xO (jU xO #v[39] (jU oY dU #v[39])) dU) dU) dU)) (bB (zY (i:=2) mR.nd rfl (Cv rfl) (jU wN (jU oY (pv 2) (jU xO (jU aAq (pv 2) dU) dU)) dU)) (cW (wW (jU wN (jU wN (jU oY (pv 2) (jU xO (jU aAq (pv 2) dU) dU)) dU) (pv 1)))))))),?_];refine#[_,rfl,a,_,_,_,rfl,rfl,SqL.of ha,rfl,_,_,rfl,rfl,_,rfl,?_];refine bCa (λ_=>?_) (λ_=>?_)
  ·refine#[_,rfl,a,_,_,_,rfl,rfl,SqL.of ha,rfl,_,rfl,_,_,rfl,rfl,hm,?_];refine#[_,rfl,a,_,_,_,rfl,rfl,SqL.of ha,rfl,_,rfl,_,_,rfl,rfl,#[hm,hm2],?_];refine#[_,rfl,a,_,_,1,rfl,rfl,ha,rfl,?_];exact#[_,rfl,fin _ _ (up _ _ _)]
  ·refine#[_,rfl,a,_,_,_,rfl,rfl,SqL.of ha,rfl,_,_,rfl,rfl,?_];refine#[_,rfl,a,_,_,2,rfl,rfl,ha,rfl,?_];have hb:(upd H a (.lst ([V.int x,V.int y,V.int z].set 2 (.int (z+1))))) a=some (.lst [.int x,.int y,.int (z+1)]):=aP;refine#[_,rfl,a,_,_,_,rfl,rfl,SqL.of hb,rfl,_,rfl,a,_,_,_,rfl,rfl,SqL.of hb,rfl,_,_,rfl,rfl,.inl #[⋯,⋯],_,_,rfl,rfl,_,_,rfl,rfl,_,_,rfl,rfl,.inr #[⋯,⋯],_,_,rfl,rfl,(by show(0:Int)<2147483647;decide),?_];refine#[_,rfl,_,rfl,_,_,rfl,rfl,#[⋯,⋯],_,_,rfl,rfl,_,_,rfl,rfl,.inl (aY4 _),_,_,rfl,rfl,(by show(0:Int)<2147483647;decide),?_];refine#[_,rfl,_,rfl,_,_,rfl,rfl,#[⋯,⋯],_,_,rfl,rfl,_,_,rfl,rfl,.inl (aY4 _),_,_,rfl,rfl,(by show(0:Int)<2147483399;decide),_,rfl,_,_,rfl,rfl,hm,?_];exact fin _ _ (up _ _ _)
theorem aJp{W B:Addr->Prop}:∀ns:List Int,DUs W B H #v[w] #v[M]
 | []=>rfl
 |_::l=>#[_,_,rfl,#[rfl,rfl],aJp l]
def bBb(K:Ad)(F:TV)(L M:TVo):TV:=λρ R=>F ρ λs=>L ρ λlo=>M ρ λhi=>∃ns:List Int,s=.sh (.op (aH1 K ns))/\R (.ow (mC #v[w] lo hi))
def aVt{X:Cx}{K:Ad}{a:Expr}{lo hi:Option Expr}{p2 pos:Pos}{F:TV}{L M:TVo}(hK:X.K=K)(ha:VE X a F)(hl:VO X lo L)(hh:VO X hi M):VE X (.Subscript a (.Slice lo hi none p2) pos) (bBb K F L M):=by
 subst hK;obtain⟨_,p,f⟩:=ha;obtain⟨_,p1,f1⟩:=hl;obtain⟨_,p2,f2⟩:=hh;refine#[_,aF1 (aJz.or aNw) p p1 p2,λ{W B ρ σ H R Q} e h q=>f e h λs v H1 h1 w1 r1=>f1 (e.to w1) h1 λlo H2 h2 w2=>f2 ((e.to w1).to w2) h2 λhi H3 h3 w3=>?_];have e3:=((e.to w1).to w2).to w3;have ww:=(w1.trans w2).trans w3;obtain⟨ns,rfl,h3⟩:=h3;have d:DU W B H3 (.op (aH1 X.K ns)) v:=DU.mono (((e.to w1).to w2).eb.keep w3) _ (DU.mono ((e.to w1).eb.keep w2) _ r1);obtain⟨a,rfl,ha⟩:=d;refine .inl #[a,ns.map V.int,rfl,ha.elim (λz=> .inl z.2) λz=>z H3,λp n=>?_];have f4:=e3.eb.new (o:=.lst (aAh #v[M] lo hi)) n;exact q _ _ _ h3 (ww.trans f4) (RO.back (s:=.ow _) ww #[p,_,rfl,n,aP,DUs.mono (λb o nb h=>#[λz=>z.elim nb (aR h n),(e3.eb.keep f4 b o nb h).2]) _ (aJp (W:=W) (B:=B) (H:=H3) ns).cut])
def aMp{α:Type}{g:Tk->U}{f:#v[y]}{Q:List U->Prop}{ys:List Tk}(hf:∀y∈ys,∀k:Option U->Prop,k (some (g y))->f (tkU y) k)(hq:Q (ys.map g)):jT f #v[46] [] Q:=by
 have key:∀(zs:List Tk)(acc:List U),(∀y∈zs,∀k:Option U->Prop,k (some (g y))->f (tkU y) k)->Q (acc++zs.map g)->jT f (zs.map tkU) acc Q:=by
  intro zs;induction zs with
  |nil=>exactλacc _ q=>by rw[Fm,Bb]at q;exact q
  |cons z zs ih=>exactλacc hf q=>hf z Ah _ (ih _ (λy hy=>hf y (Af _ hy)) (by rw[Ce];exact q))
 exact key ys [] hf hq
def aEf(n:Nat)(ns:List Int):U.dts n #v[w]:=by
 induction ns with
 |nil=>cases n<;>trivial
 |cons r rs ih=>cases n<;>exact#[trivial,ih]
def yZ(n:Nat)(ys:List Tk):U.dts (n+2) #v[46]:=by
 induction ys with
 |nil=>trivial
 |cons y ys ih=>exact#[#[trivial,aEf n y.2,trivial],ih]
def pU(p:List Int):U:=.tp (p.map U.n)
def ext(n:Int)(p:List Int):List (List Int):=(Bh n.toNat).map λ(i:Nat)=>p++[0+(i:Int)]
def rY(ns:List Int):List (List Int):=ns.foldl (λps n=>ps.flatMap (ext n)) [[]]
abbrev plU(ns:List Int):List U:=(rY ns).map pU
def spU(pl:List U)(n:Nat):List U:=(Bh n).flatMap λ(j:Nat)=>pl.map λu=> .tp [.n (1+(j:Int)),u]
theorem aAu(q:R (.sh u)):∀{xs:List Str}{us:List U}{k:Nat},xs.Nodup->xs[k]? =some x->us[k]? =some u->aBa x xs us R
 | [],_,_,_,h,_=>by simp at h
 |_::_,[],_,_,_,h=>by simp at h
 |a::xs,v::us,0,_,h1,h2=>by
  simp at h1 h2;subst h1 h2;exact .inl #[rfl,q]
 |a::xs,v::us,k+1,nd,h1,h2=>by
  have h1:xs[k]? =some x:=by simpa using h1
  refine .inr #[λe=>?_,aAu q (List.nodup_cons.mp nd).2 h1 (by simpa using h2)];subst e;exact(List.nodup_cons.mp nd).1 (Ai h1)
def zZ(pl:List U)(n:Nat):spU pl n++(pl.map λu=> .tp [.n (1+(n:Int)),u])=spU pl (n+1):=by
 unfold spU;rw[List.range_succ,Li];simp
variable {CG CJ:Addr}
def aTx:Fv:=λus R=>∃(ps:#v[z])(n:Int),us=[.ls (ps.map pU),.n n]/\0<=n/\n<=9/\#v[H].length<=1000/\(∀p∈ps,p.length<=3)/\R (.ow (#v[H].map pU))
def mO:aQ ["places","size","longer","place","number"] ["places","size"] (aC sW):={}
def aR4(F:Fun K "with_line" "with_line" sW f fd)(T:Txt mg):↥1 f fd ["places","size"] (spV aTx):=by
 refine vfn F mO (λcdv A outer s H E hr=>(aD (aZ (i:=2) mO.nd (bL aF)) (aD (cO Bc rfl (aX (aA 0)) (cR (i:=3) mO.nd) (aG (cO Bc rfl (eV T.range (aJ (aA 1) aM)) (cR (i:=4) mO.nd) (aG (uB 2 (cT dH fH (aA 3) (dM (aB (aA 4) aF)))))))) (aG (jH 2))))) ?_;rintro _ R ⟨ps,n,rfl,n0,n9,hl,hp,q⟩;refine#[rfl,?_];show iI (gZ 3) _ _ (ps.map pU) _;refine bG (λl ρ=>∃(qs rest:#v[z])(x y:Sl),l=rest.map pU/\ρ=[.sh (.ls (ps.map pU)),.sh (.n n),.ow (qs.map pU),x,y]/\(∀p∈rest,p.length<=3)/\qs++rest.flatMap (ext n)=ps.flatMap (ext n)) ?_ ?_ #[[],ps,_,_,rfl,rfl,hp,rfl]
 ·rintro ρ ⟨qs,rest,x,y,e,rfl,_,ee⟩;obtain rfl:rest=[]:=List.map_eq_nil_iff.mp e.symm;rw[Sm,Bb]at ee;rw[<-ee]at q;exact q
 ·rintro u l ρ ⟨qs,rest0,x,y,e,rfl,h3,ee⟩ ih;cases rest0 with
  |nil=>cases e
  |cons p rest=>
   obtain⟨rfl,rfl⟩:=Dh e;have p3:=h3 p Ah;refine#[∅,∅,?_];refine bG (λl ρ=>∃(js:List Nat)(qs':#v[z])(y:Sl),l=js.map (λi:Nat=>U.n (0+(i:Int)))/\ρ=[.sh (.ls (ps.map pU)),.sh (.n n),.ow (qs'.map pU),.sh (pU p),y]/\qs'++js.map (λi:Nat=>p++[0+(i:Int)])=qs++ext n p) ?_ ?_ #[Bh n.toNat,qs,_,rfl,rfl,rfl]
   ·rintro ρ ⟨js,qs',y,e,rfl,e2⟩;obtain rfl:js=[]:=List.map_eq_nil_iff.mp e.symm;rw[Fm,Bb]at e2;exact ih _ #[qs',rest,_,_,rfl,rfl,λp hp=>h3 p (Af _ hp),by rw[e2,Ce];exact ee]
   ·rintro u l ρ ⟨js0,qs',y,e,rfl,e2⟩ ih2;cases js0 with
    |nil=>cases e
    |cons j js=>
     obtain⟨rfl,rfl⟩:=Dh e;have l2:=congrArg Eh e2;have l3:=congrArg Eh ee;simp only[Al,Ha,Ab,Am]at l2 l3;refine#[by rw[Ab];lia,by rw[Ab];show _+1<=10000;lia,?_];have e3:(qs'.map pU++[U.tp (p.map U.n++[U.n (0+(j:Int))])])=(qs'++[p++[0+(j:Int)]]).map pU:=by
      rw[Ca];show _=_++[U.tp ((p++[0+(j:Int)]).map U.n)];rw[Ca];rfl
     exact ih2 _ #[js,qs'++[p++[0+(j:Int)]],.sh (.n (0+(j:Int))),rfl,by rw[<-e3];rfl,by rw[Ce];exact e2]
theorem xM:∀(ms:List Int)(ps:#v[z]),(∀n∈ms,1<=n)->ps.length<=(ms.foldl (λps n=>ps.flatMap (ext n)) ps).length
 | [],_,_=>Aj _
 |n::ms,ps,h=>by
  refine Ci ?_ (xM ms #v[H] λm hm=>h m (Af _ hm));have h1:=h n Ah;have el:∀p,(ext n p).length=n.toNat:=λp=>by unfold ext;rw[Ab,Cw]
  clear h;induction ps with
  |nil=>exact Bg _
  |cons p ps ih=>
   rw[Ha,Al,el,Am]
   lia
def aU3(C:Addr):Fv:=λus R=>∃ns rs,us=[grU C ns rs]/\iZ ns/\(rY ns).length<=40/\∀s,s=.ow (plU ns)∨s=.sh (.ls (plU ns))->R s
def fD:aQ ["self","places","size"] ["self"] (aC jE):={}
def aQ7(F:Fun K "all_places" "Grid.all_places" jE f fd)(cG:Cfl K C ["sizes","rims"])(c_with_line:⇑1 "with_line" ["places","size"] (spV aTx))(T:Txt mg):↥2 f fd ["self"] (spV (aU3 C)):=by
 refine vfn F fD (λcdv A outer s H E hr=>(aD (aZ (i:=1) fD.nd (bL (aB (dM aF) aF))) (aD (cO Bc rfl (aX (dW cG (aA 0))) (cR (i:=2) fD.nd) (fO 1 (aG (aZ (i:=1) fD.nd (aL c_with_line (hr.mono ⋯) rfl (aB (aA 1) (aB (aA 2) aF))))))) (aG (jH 1))))) ?_;rintro _ R ⟨ns,rs,rfl,gs,hl,q⟩;refine#[rfl,rfl,.inl #[rfl,?_]];show iI (gZ 2) _ _ #v[w] _;have l3:=gs.l3;refine bG (λl ρ=>∃(ms:List Int)(ps:#v[z])(s x:Sl),l=ms.map U.n/\(s=.ow (ps.map pU)∨s=.sh (.ls (ps.map pU)))/\ρ=[.sh (grU C ns rs),s,x]/\(∀n∈ms,1<=n/\n<=9)/\(∀p∈ps,p.length+ms.length<=3)/\ms.foldl (λps n=>ps.flatMap (ext n)) ps=rY ns) ?_ ?_ #[ns,[[]],_,_,rfl,.inl rfl,rfl,gs.ok,λp hp=>by rw[List.mem_singleton.mp hp];show 0+_<=3;lia,rfl]
 ·rintro ρ ⟨ms,ps,s,x,e,hs,rfl,_,_,ee⟩;obtain rfl:ms=[]:=List.map_eq_nil_iff.mp e.symm;have ee:ps=rY ns:=ee;subst ee;rcases hs with rfl|rfl
  ·exact q _ (.inl rfl)
  ·exact q _ (.inr rfl)
 ·rintro u l ρ ⟨ms0,ps,s,x,e,hs,rfl,hm,h3,ee⟩ ih;cases ms0 with
  |nil=>cases e
  |cons n ms=>
   obtain⟨rfl,rfl⟩:=Dh e;have hn:=hm n Ah;have hm':∀x∈ms,1<=x/\x<=9:=λx hx=>hm x (Af _ hx);have ee:ms.foldl (λps n=>ps.flatMap (ext n)) #v[H]=rY ns:=ee;have le:=xM ms #v[H] λx hx=>(hm' x hx).1;rw[ee]at le;have nx:=ih [.sh (grU C ns rs),.ow (#v[H].map pU),.sh (.n n)] ⟨ms,ps.flatMap (ext n),_,_,rfl,.inl rfl,rfl,hm',λp hp=>by
    obtain⟨p0,h0,h1⟩:=List.mem_flatMap.mp hp;obtain⟨i,_,rfl⟩:=List.mem_map.mp h1;have:=h3 p0 h0;rw[Am]at this;rw[Al];show _+1+_<=3;lia,ee⟩
   rcases hs with rfl|rfl
   ·exact#[ps,n,rfl,∅,∅,∅,λp hp=>by have:=h3 p hp;lia,nx]
   ·exact#[ps,n,rfl,∅,∅,∅,λp hp=>by have:=h3 p hp;lia,nx]
def aC9(pl:List U)(n:Nat)(h:pl.length<=40):(spU pl n).length<=40*n:=by
 induction n with
 |zero=>exact Aj _
 |succ n ih=>
  rw[<-zZ,Al,Ab]
  lia
def aT0(N:Cn)(CG CJ:Addr):Fv:=λus R=>∃ns rs t ys m r ls,us=[rH N CG CJ ns rs t ys m r ls]/\iZ ns/\(rY ns).length<=40/\0<=r/\r<=12/\R (.ow (spU (plU ns) r.toNat))
abbrev yK:List Str:=["self","places","spots","round_at"]
def gJ:aQ ["self","places","spots","round_at"] ["self"] (aC iM):={}
def aR3(F:Fun K "all_spots" "Job.all_spots" iM f fd)(cJ:#v[71])(D_all_places:Dis P w K mg base CX0 2 (·=CG) "all_places" ["self"] λ_=>spV (aU3 CG))(T:Txt mg):↥3 f fd ["self"] (spV (aT0 N CG CJ)):=by
 refine vfn F gJ (λcdv A outer s H E hr=>(aD (aZ (i:=1) gJ.nd (cC (dW cJ (aA 0)) D_all_places (hr.mono ⋯))) (fO 1 (aD (aZ (i:=2) gJ.nd (bL aF)) (aD (cO Bc rfl (aCp T.range (aJ aH (aJ (cT dH fH (dW cJ (aA 0)) aH) aM))) (cR (i:=3) gJ.nd) (aG (wK 2 (dR (own:=["place"]) (cap:=[("round_at",3)]) (aC iM) yK rfl rfl (λx h=>aV h) #v[5] rfl (vic (aX (aA 1))) ↑(aW (i:=0) (~~~["place","round_at"]) rfl (Cv rfl) (Dc rfl)) (bC ⋯) ↑(dM (aB (aA 1) (aB (aA 0) aF))))))) (aG (jH 2))))))) ?_;rintro _ R ⟨ns,rs,t,ys,m,r,ls,rfl,gs,hl,r0,r12,q⟩;have pl40:(plU ns).length<=40:=by rw[Ab];exact hl
 have main:iI (gZ 3) (aXv 2 (aAg 1 [("round_at",3)] (vLs (aJ8 1)) (gZ 0) (aY5 (aNk (aJ8 1) (aNk (aJ8 0) aQs))))) {nx:=aQt 2 {nx:=λ_=>R (.sh .no),rt:=R},rt:=R} (gR 1 (r+1-1).toNat) [.sh #v[20],.sh (.ls (plU ns)),.ow [],.no]:=by
  refine bG (λl ρ=>∃(k:Nat)(x:Sl),l=(Wo k (r.toNat-k)).map (λi:Nat=>U.n (1+(i:Int)))/\k<=r.toNat/\ρ=[.sh #v[20],.sh (.ls (plU ns)),.ow (spU (plU ns) k),x]) ?_ ?_ #[0,_,by rw[Qo, <-Qr,show(r+1-1)=r by lia];rfl,Bg _,rfl]
  ·rintro ρ ⟨k,x,e,hk,rfl⟩;have:k=r.toNat:=by
    have:=congrArg Eh e;simp at this
    lia
   subst this;exact q
  ·rintro u l ρ ⟨k,x,e,hk,rfl⟩ ih;have hlt:k<r.toNat:=by
    have:=congrArg Eh e;simp at this
    lia
   rw[show r.toNat-k=(r.toNat-(k+1))+1 by lia,Sk,Ba]at e;obtain⟨rfl,rfl⟩:=Dh e;have sl:=aC9 (plU ns) k pl40;refine#[∅,cD (h:=λu=> .tp [.n (1+(k:Int)),u]) (λu hu c hc=>hc) #[?_,?_]]
   ·rw[Bd,Ab];lia
   ·rw[Bd];exact ih _ #[k+1,_,rfl,hlt,by rw[<-zZ];rfl]
 refine#[rfl,rfl,.inr #[by decide+kernel,.inl #[rfl,rfl,rfl,ns,rs,rfl,gs,hl,λs hs=>?_]]];rcases hs with rfl|rfl
 all_goals
  refine#[rfl,show aBa "rounds" ["taken","grid","term","modulus","rounds","first"] _ _ from aAu (xs:=["taken","grid","term","modulus","rounds","first"]) (k:=4) (u:=.n r) ?_ #v[5] rfl rfl];exact#[#[∅,∅,∅,∅],main]
def pull{α:Type}{g:α->U}{p:α->Prop}{xs:List U}(h:∀x∈xs,∃a,x=g a/\p a):∃as:List α,xs=as.map g/\∀a∈as,p a:=by
 induction xs with
 |nil=>exact#[[],rfl,nofun]
 |cons x xs ih=>
  obtain⟨a,rfl,ha⟩:=h x Ah;obtain⟨as,rfl,hs⟩:=ih λy hy=>h y (Af _ hy);exact#[a::as,rfl,λb hb=>(List.mem_cons.mp hb).elim (λe=>e▸ha) (hs b)]
def cM(lo:Int)(n:Nat):(gR lo n).length=n:=by simp[gR]
def sX{l:List U}(h0:0<=r)(h:r<l.length):∃u∈l,atI l r=some u:=by
 obtain⟨n,rfl⟩:=Ei h0;have hn:n<l.length:=by lia
 exact#[l[n],Im hn,bQ (Ag hn)]
def aQf(l m:List Int):D.eqs (U.ds (l.map U.n)) (U.ds (m.map U.n))=decide (l=m):=by
 induction l generalizing m with
 |nil=>cases m<;>rfl
 |cons a l ih=>
  cases m with
  |nil=>rfl
  |cons b m=>
   show(eqV (.int a) (.int b) && D.eqs (U.ds (l.map U.n)) (U.ds (m.map U.n)))=_;rw[ih];simp[eqV];rfl
def aNi(a b:Tk):U.eq (tkU a) (tkU b)=decide (a=b):=by
 show(eqV (.int a.1) (.int b.1) && (D.eqs (U.ds (a.2.map U.n)) (U.ds (b.2.map U.n)) && true))=_;rw[aQf];obtain⟨a1,a2⟩:=a;obtain⟨b1,b2⟩:=b;simp[eqV];rfl
def aRa(zs:List Tk)(p:Tk):((zs.map tkU).any λe=>e.eq (tkU p))=decide (p∈zs):=by
 rw[List.any_map,Tq,List.any_eq_true,decide_eq_true_iff];exact#[λ⟨x,hx,h⟩=>by rw[<-of_decide_eq_true ((aNi x p).symm.trans h)];exact hx,λh=>#[p,h,(aNi p p).trans (decide_eq_true rfl)]]
def aTz:Fv:=λus R=>∃n:Int,us=[.n n]/\∀a b c:Int,R (.ow [.n a,.n b,.n c])
def aC1:aQ ["_law_cell"] ["_law_cell"] (aC sJ):={}
def aQ5(F:Fun K "_law_tape" "_law_tape" sJ f fd)(T:Txt mg):↥1 f fd ["_law_cell"] (spV aTz):=by
 refine vfn F aC1 (λcdv A outer s H E(hr:eY 0 _)=>(aG (aU (bL (aB (cT wN aGd (aA 0) aH) (aB (cT oY aGd (dC pH zT T.int Pg (aJ (iB aYs cU (aA 0) (cT aVb aGd aH aH)) aM)) (aA 0)) (aB aH aF))))))) ?_;rintro _ R ⟨n,rfl,q⟩;have k:∀c:Bool, -(2 ^ 64)<(if c then 1 else 0:Int)/\(if c then 1 else 0:Int)<2 ^ 64:=λc=>by cases c<;>decide
 exact#[rfl,by show(0:Int)<2147483647;decide,#[⋯,⋯,⋯],.inl (k _),q _ _ _]
def wS:List (List Int):=[[3],[2,2],[4],[1],[2,1],[5],[2,1,2],[3,2]]
structure aJ0(ns:List Int)(rs:List Rim)(ys:List Tk)(r:Int):Prop where
 gs:iZ ns
 p6:oF ns<=6
 rl:rs.length=ns.length
 ro:∀x∈rs,x.ok
 yl:ys.length<=3
 yn:ys.Nodup
 yg:∀y∈ys,aMl y/\y.2.length=ns.length
 r0:0<=r
 r5:r<=5
 sz:ns∈wS
def wD(ns:List Int)(rs:List Rim)(ys:List Tk)(r:Int):U:=.tp [.ls #v[w],.ls (rs.map Rim.u),.ls #v[46],.n r]
def aNc:Fv:=λus R=>us=[.wl]/\∀ns rs ys r,aJ0 ns rs ys r->R (.sh #v[78])
abbrev vI:List Str:=["_law_tape_here","_law_sizes","_law_rims","_law_takes","_law_k","_law_back","_law_steps"]
def eF:aQ ["_law_tape_here","_law_sizes","_law_rims","_law_takes","_law_k","_law_back","_law_steps"] ["_law_tape_here"] (aC jF):={}
def aOk(F:Fun K "_law_world" "_law_world" jF f fd)(c__law_draw:#v[16])(T:Txt mg):↥2 f fd ["_law_tape_here"] (spV aNc):=by
 refine vfn F eF (λcdv A outer s H E hr=>(aD (aZ (i:=1) eF.nd (bH aY bI (bL (aB (bL (aB aH aF)) (aB (bL (aB aH (aB aH aF))) (aB (bL (aB aH aF)) (aB (bL (aB aH aF)) (aB (bL (aB aH (aB aH aF))) (aB (bL (aB aH aF)) (aB (bL (aB aH (aB aH (aB aH aF)))) (aB (bL (aB aH (aB aH aF))) aF))))))))) #v[Z])) (aD (aMv (i:=2) (own:=["_law_size"]) (cap:=[("_law_tape_here",0)]) eF.nd (aC jF) vI rfl rfl (λx h=>aV h) #v[5] rfl (vic (aX (aA 1))) ↑(aW (i:=0) (~~~["_law_size","_law_tape_here"]) rfl (Cv rfl) (Dc rfl)) (bC ⋯) ↑(bH aY bI (bL (aB (dM (aB qM (aB aH aF))) (aB (dM (aB qM aF)) (aB (dM (aB qM aF)) aF)))) #v[b])) (aD (aZ (i:=3) eF.nd (bL aF)) (aD (cO Bc rfl (eV T.range (aJ (bH aY bI (bL (aB aH (aB aH (aB aH (aB aH (aB aH (aB aH aF))))))) #v[Z]) aM)) (cR (i:=4) eF.nd) (aD (aZ (i:=5) eF.nd (bH aY bI (bL (aB aH (aB aH (aB aH (aB aH aF))))) #v[Z])) (aD (aZ (i:=6) eF.nd (dC (aFc rfl) aOb T.tuple Lw (aJ (dR (own:=["_law_size"]) (cap:=[("_law_tape_here",0)]) (aC jF) vI rfl rfl (λx h=>aV h) #v[5] rfl (vic (aX (aA 1))) ↑(aW (i:=0) (~~~["_law_size","_law_tape_here"]) rfl (Cv rfl) (Dc rfl)) (bC ⋯) ↑(cT rJ cU #v[b] aH)) aM))) (aG (cB (bK (aBw (huD hr)) aP9 (dM (aB (aA 5) (aB (aA 6) aF))) (aA 3)) (aG (uB 3 (dM (aB (aA 5) (aB (aA 6) aF))))) bA))))) (fO 2 (fO 3 (aG (aU (dM (aB (aA 1) (aB (aA 2) (aB (aA 3) (aB #v[Z] aF)))))))))))))) ?_;rintro _ R ⟨rfl,q⟩;refine#[rfl,8,rfl,⋯,⋯,λr r0 r8=>?_];obtain⟨u,hu,eu⟩:=sX (l:=[U.ls [.n 3],.ls [.n 2,.n 2],.ls [.n 4],.ls [.n 1],.ls [.n 2,.n 1],.ls [.n 5],.ls [.n 2,.n 1,.n 2],.ls [.n 3,.n 2]]) r0 r8;have key:∃ns:List Int,u=.ls #v[w]/\iZ ns/\oF ns<=6/\ns∈wS:=by
  simp only[Cr,Bz,or_false]at hu;rcases hu with rfl|rfl|rfl|rfl|rfl|rfl|rfl|rfl
  ·exact#[[3],rfl,#[⋯,⋯,⋯,⋯],⋯,⋯]
  ·exact#[[2,2],rfl,#[⋯,⋯,⋯,⋯],⋯,⋯]
  ·exact#[[4],rfl,#[⋯,⋯,⋯,⋯],⋯,⋯]
  ·exact#[[1],rfl,#[⋯,⋯,⋯,⋯],⋯,⋯]
  ·exact#[[2,1],rfl,#[⋯,⋯,⋯,⋯],⋯,⋯]
  ·exact#[[5],rfl,#[⋯,⋯,⋯,⋯],⋯,⋯]
  ·exact#[[2,1,2],rfl,#[⋯,⋯,⋯,⋯],⋯,⋯]
  ·exact#[[3,2],rfl,#[⋯,⋯,⋯,⋯],⋯,⋯]
 obtain⟨ns,rfl,gs,p6,sz⟩:=key;have l3:=gs.l3;refine#[_,eu,by rw[Ab];lia,jB (λx=>∃a:Rim,x=a.u/\a.ok) (λu hu c hc=>#[3,rfl,⋯,⋯,λr r0 r3=>?_]) λxs xl xp=>?_]
 ·obtain⟨x,hx,ex⟩:=sX (l:=[U.tp [.s "fixed",.n 7],.tp [.s "mirror"],.tp [.s "round"]]) r0 r3;refine#[_,ex,hc _ ?_];simp only[Cr,Bz,or_false]at hx;rcases hx with rfl|rfl|rfl
  ·exact#[.fixed 7,rfl,⋯,⋯]
  ·exact#[.mirror,rfl,trivial]
  ·exact#[.round,rfl,trivial]
 obtain⟨rs,rfl,ro⟩:=pull xp;rw[Ab,Ab]at xl;refine#[6,rfl,⋯,⋯,λr r0 r6=>?_];obtain⟨u,hu,eu⟩:=sX (l:=[U.n 2,.n 1,.n 3,.n 2,.n 3,.n 0]) r0 r6;have key:∃m:Int,u=.n m/\0<=m/\m<=3:=by
  simp only[Cr,Bz,or_false]at hu;rcases hu with rfl|rfl|rfl|rfl|rfl|rfl<;>exact#[_,rfl,⋯,⋯]
 obtain⟨m,rfl,m0,m3⟩:=key;refine#[_,eu,∅,∅,?_];refine bG (λl ρ=>∃(ys:List Tk)(a b c:Sl),ρ=[.sh .wl,.sh (.ls #v[w]),.ow (rs.map Rim.u),.ow #v[46],a,b,c]/\ys.length+l.length<=3/\ys.Nodup/\∀y∈ys,aMl y/\y.2.length=ns.length) ?_ ?_ ?_
 rotate_left 2
 ·exact#[[],_,_,_,rfl,by simp[cM];lia,Gg,nofun]
 ·rintro ρ ⟨ys,a,b,c,rfl,yl,yn,yg⟩;exact#[6,rfl,⋯,⋯,λr r0 r6=>q ns rs ys r #[gs,p6,∅,ro,by simpa using yl,yn,yg,r0,∅,sz]]
 ·rintro u l ρ ⟨ys,a,b,c,rfl,yl,yn,yg⟩ ih;rw[Am]at yl;refine#[4,rfl,⋯,⋯,λr r0 r4=>?_];obtain⟨u,hu,eu⟩:=sX (l:=[U.n 1,.n 1,.n 2,.n 3]) r0 r4;have key:∃m:Int,u=.n m/\1<=m/\m<=3:=by
   simp only[Cr,Bz,or_false]at hu;rcases hu with rfl|rfl|rfl|rfl<;>exact#[_,rfl,⋯,⋯]
  obtain⟨bk,rfl,b1,b3⟩:=key;refine#[_,eu,by rw[Ab];lia,jB (λx=>∃s:Int,x=.n s/\(-9<=s/\s<=9)) (λu hu c hc=>#[5,rfl,⋯,⋯,λt t0 t5=>hc _ #[_,rfl,∅]]) λxs xl xp=>?_];obtain⟨ss,rfl,hs⟩:=pull xp;rw[Ab,Ab]at xl;have e:(!(#v[46].any λe=>e.eq (tkU (bk,ss))))= !decide ((bk,ss)∈ys):=by rw[aRa]
  have dts:=yZ 38 ys;have di:=aEf 38 ss;by_cases hm:(bk,ss)∈ys
  ·refine#[#[trivial,di,trivial],dts,λz=>?_,λ_=>ih _ #[ys,_,_,_,rfl,∅,yn,yg]];have z:(!(#v[46].any λe=>e.eq (tkU (bk,ss))))=true:=z;rw[e,decide_eq_true hm]at z;cases z
  ·refine#[#[trivial,di,trivial],dts,λ_=>#[by rw[Ab];lia,ih _ #[ys++[(bk,ss)],_,_,_,by rw[Ca];rfl,by rw[Al,Dg];lia,List.nodup_append.mpr #[yn,by simp,λa ha b hb=>by rw[List.mem_singleton.mp hb];exactλe=>hm (e▸ha)],λy hy=>?_]],λz=>?_]
   ·rcases List.mem_append.mp hy with h|h
    ·exact yg y h
    ·rw[List.mem_singleton.mp h];exact#[#[b1,b3,hs],by show ss.length=_;lia]
   ·have z:(!(#v[46].any λe=>e.eq (tkU (bk,ss))))=false:=z;rw[e,decide_eq_false hm]at z;cases z
def aDf:Fv:=λus R=>∃ns:List Int,us=[.ls #v[w]]/\iZ ns/\(rY ns).length<=40/\R (.sh (.ls (plU ns)))
abbrev aBk:List Str:=["_law_sizes","_law_found","_law_size","_law_longer","_law_place"]
def eX:aQ ["_law_sizes","_law_found","_law_size","_law_longer","_law_place"] ["_law_sizes"] (aC kW):={}
def aQ2(n:Int)(p:List Int):(gR 0 n.toNat).map (λu=>U.tp (p.map U.n++[u]))=(ext n p).map pU:=by
 unfold gR ext pU;simp[Qe]
def aLk(F:Fun K "_law_places" "_law_places" kW f fd)(T:Txt mg):↥1 f fd ["_law_sizes"] (spV aDf):=by
 refine vfn F eX (λcdv A outer s H E(hr:eY 0 _)=>(aD (aZ (i:=1) eX.nd (bL (aB (dM aF) aF))) (fO 1 (aD (cO Bc rfl (aX (aA 0)) (cR (i:=2) eX.nd) (aD (aZ (i:=3) eX.nd (bL aF)) (aD (cO Bc rfl (aX (aA 1)) (cR (i:=4) eX.nd) (aG (wK 3 (dR (own:=["_law_k"]) (cap:=[("_law_place",4)]) (aC kW) aBk rfl rfl (λx h=>aV h) #v[5] rfl (vic (eV T.range (aJ (aA 2) aM))) ↑(aW (i:=0) (~~~["_law_k","_law_place"]) rfl (Cv rfl) (Dc rfl)) (bC ⋯) ↑(cT dH fH (aA 1) (dM (aB (aA 0) aF))))))) (fO 3 (aG (aZ (i:=1) eX.nd (aA 3))))))) (aG (jH 1)))))) ?_;rintro _ R ⟨ns,rfl,gs,l40,q⟩;have l3:=gs.l3;refine#[rfl,?_];refine bG (λl ρ=>∃(ms:List Int)(ps:#v[z])(a b c:Sl),l=ms.map U.n/\ρ=[.sh (.ls #v[w]),.sh (.ls (ps.map pU)),a,b,c]/\(∀n∈ms,1<=n/\n<=9)/\(∀p∈ps,p.length+ms.length<=3)/\ms.foldl (λps n=>ps.flatMap (ext n)) ps=rY ns) ?_ ?_ #[ns,[[]],_,_,_,rfl,rfl,gs.ok,λp hp=>by rw[List.mem_singleton.mp hp];show 0+_<=3;lia,rfl]
 ·rintro ρ ⟨ms,ps,a,b,c,el,rfl,_,_,ee⟩;obtain rfl:ms=[]:=List.map_eq_nil_iff.mp el.symm;have ee:ps=rY ns:=ee;subst ee;exact q
 ·rintro u l ρ ⟨ms0,ps,a,b,c,el,rfl,hm,h3,ee⟩ ih;cases ms0 with
  |nil=>cases el
  |cons n ms=>
   obtain⟨rfl,rfl⟩:=Dh el;have hn:=hm n Ah;have hm':∀x∈ms,1<=x/\x<=9:=λx hx=>hm x (Af _ hx);have ee:ms.foldl (λps n=>ps.flatMap (ext n)) #v[H]=rY ns:=ee;have le:=xM ms #v[H] λx hx=>(hm' x hx).1;rw[ee]at le;show iI (gZ 4) _ _ (ps.map pU) [.sh (.ls #v[w]),.sh (.ls (ps.map pU)),.sh (.n n),.ow [],c];refine bG (λl ρ=>∃(dn rs:#v[z])(c:Sl),l=rs.map pU/\dn++rs=ps/\ρ=[.sh (.ls #v[w]),.sh (.ls (ps.map pU)),.sh (.n n),.ow ((dn.flatMap (ext n)).map pU),c]) ?_ ?_ #[[],ps,_,rfl,rfl,rfl]
   ·rintro ρ ⟨dn,rs,c,el,ed,rfl⟩;obtain rfl:rs=[]:=List.map_eq_nil_iff.mp el.symm;rw[Bb]at ed;subst ed;exact ih _ ⟨ms,_,_,_,_,rfl,rfl,hm',λp hp=>by
     obtain⟨p0,h0,h1⟩:=List.mem_flatMap.mp hp;obtain⟨i,_,rfl⟩:=List.mem_map.mp h1;have:=h3 p0 h0;rw[Am]at this;rw[Al];show _+1+_<=3;lia,ee⟩
   ·rintro u l ρ ⟨dn,rs,c,el,ed,rfl⟩ ih2;cases rs with
    |nil=>cases el
    |cons p rs=>
     obtain⟨rfl,rfl⟩:=Dh el;have ll:(dn.flatMap (ext n)).length+(ext n p).length<=40:=by
      have:#v[H].length=(dn.flatMap (ext n)).length+((ext n p).length+(rs.flatMap (ext n)).length):=by
       rw[<-ed,Li,Al,Ha,Al]
      lia
     refine#[∅,∅,by rw[cM];lia,cD (h:=λu=> .tp (p.map U.n++[u])) (λu hu k hk=>#[?_,hk]) ?_]
     ·have:=h3 p (by rw[<-ed];simp);rw[Ab];show _+1<=10000;lia
     ·have ex:=aQ2 n p;refine#[by rw[Bd,ex,Ab,Ab];lia,ih2 _ #[dn++[p],rs,.sh (pU p),rfl,by rw[<-ed];simp,?_]];rw[Bd,ex,Li,Ca,Ha,Sm,Bb];rfl
def aIq:Fv:=λus R=>∃ns rs ys r,us=[wD ns rs ys r]/\aJ0 ns rs ys r/\(rY ns).length<=40/\∀s,s=.ow (spU (plU ns) r.toNat)->R s
abbrev aDt:List Str:=["_law_world_here","_law_found","_law_turn"]
def pC:aQ ["_law_world_here","_law_found","_law_turn"] ["_law_world_here"] (aC lZ):={}
def aMu(F:Fun K "_law_spots" "_law_spots" lZ f fd)(c__law_places:⇑1 "_law_places" ["_law_sizes"] (spV aDf))(T:Txt mg):↥2 f fd ["_law_world_here"] (spV aIq):=by
 refine vfn F pC (λcdv A outer s H E hr=>(aD (aZ (i:=1) pC.nd (bL aF)) (aD (cO Bc rfl (aCp T.range (aJ aH (aJ (cT dH fH #v[t] aH) aM))) (cR (i:=2) pC.nd) (aG (wK 1 (dR (own:=["_law_place"]) (cap:=[("_law_turn",2)]) (aC lZ) aDt rfl rfl (λx h=>aV h) #v[5] rfl (vic (aX (aL c__law_places (hr.mono ⋯) rfl (aB #v[t] aF)))) ↑(aW (i:=0) (~~~["_law_place","_law_turn"]) rfl (Cv rfl) (Dc rfl)) (bC ⋯) ↑(dM (aB (aA 1) (aB (aA 0) aF))))))) (aG (jH 1))))) ?_;rintro _ R ⟨ns,rs,ys,r,rfl,g,l40,q⟩;have r0:=g.r0;have r5:=g.r5;have pl40:(plU ns).length<=40:=by rw[Ab];exact l40
 refine#[rfl,_,rfl,#[∅,∅,∅,∅],?_];refine bG (λl ρ=>∃(k:Nat)(x:Sl),l=(Wo k (r.toNat-k)).map (λi:Nat=>U.n (1+(i:Int)))/\k<=r.toNat/\ρ=[.sh #v[78],.ow (spU (plU ns) k),x]) ?_ ?_ #[0,_,by rw[Qo, <-Qr,show(r+1-1)=r by lia];rfl,Bg _,rfl]
 ·rintro ρ ⟨k,x,e,hk,rfl⟩;have:k=r.toNat:=by
   have:=congrArg Eh e;simp at this
   lia
  subst this;exact q _ rfl
 ·rintro u l ρ ⟨k,x,e,hk,rfl⟩ ih;have hlt:k<r.toNat:=by
   have:=congrArg Eh e;simp at this
   lia
  rw[show r.toNat-k=(r.toNat-(k+1))+1 by lia,Sk,Ba]at e;obtain⟨rfl,rfl⟩:=Dh e;have sl:=aC9 (plU ns) k pl40;refine#[_,rfl,ns,rfl,g.gs,l40,∅,cD (h:=λu=> .tp [.n (1+(k:Int)),u]) (λu hu c hc=>hc) #[?_,?_]]
  ·rw[Bd,Ab];lia
  ·rw[Bd];exact ih _ #[k+1,_,rfl,hlt,by rw[<-zZ];rfl]
def spS(ns:List Int)(n:Nat):List Tk:=(Bh n).flatMap λ(j:Nat)=>(rY ns).map λp=>(1+(j:Int),p)
def aAo(ns:List Int)(n:Nat):spU (plU ns) n=(spS ns n).map tkU:=by
 unfold spU spS;rw[List.map_flatMap];congr 1;funext j;rw[Au,Au];rfl
def aQo{n:Int}(h:0<=n)(ps:#v[z]):(#v[H].length:Int)=ps.length*n:=by
 induction ps with
 |nil=>simp
 |cons p ps ih=>
  rw[Ha,Al,Am];have:(ext n p).length=n.toNat:=by unfold ext;rw[Ab,Cw]
  rw[this,Od,ih,Od,Xg]
  lia
theorem aF6:∀(ns:List Int)(ps:#v[z]),(∀n∈ns,1<=n)->((ns.foldl (λps n=>ps.flatMap (ext n)) ps).length:Int)=ns.foldl (λa n=>a*n) (ps.length:Int)
 | [],_,_=>rfl
 |n::ns,ps,h=>by
  rw[Jh,Jh,aF6 ns _ λx hx=>h x (Af _ hx),aQo (by have:=h n Ah;lia)]
def aFn(h:∀n∈ns,1<=n):((rY ns).length:Int)=oF ns:=aF6 ns [[]] h
def aAz(gs:iZ ns):(rY ns).length<=40:=by
 have:=aFn λn hn=>(gs.ok n hn).1;have:=gs.mn
 lia
def Inn:List Int->List Int->Prop
 | [],l=>l=[]
 |n::ns,l=>∃x r,l=x::r/\0<=x/\x<n/\Inn ns r
def aVg{n:Int}{ps:#v[z]}(h:ps.Nodup):#v[H].Nodup:=by
 unfold Rz;rw[Qc];refine#[λp hp=>?_,h.imp λ{a b} h x hx y hy e=>?_]
 ·unfold ext;rw[Gz];exact(Fh (n:=n.toNat)).imp λh e=>h (by have:=(Dh (List.append_cancel_left e)).1;lia)
 ·obtain⟨i,_,rfl⟩:=List.mem_map.mp hx;obtain⟨j,_,rfl⟩:=List.mem_map.mp hy;exact h (List.append_inj' e rfl).1
theorem aGm:∀{ns:List Int}{ps:#v[z]},ps.Nodup->(ns.foldl (λps n=>ps.flatMap (ext n)) ps).Nodup
 | [],_,h=>h
 |n::ns,ps,h=>aGm (ns:=ns) (ps:=ps.flatMap (ext n)) (aVg h)
def aPl(ns:List Int)(n:Nat):(spS ns n).Nodup:=by
 unfold Rz spS;rw[Qc];refine#[λj hj=>?_,(Fh (n:=n)).imp λ{a b} h x hx y hy e=>?_]
 ·rw[Gz];exact(aGm (ns:=ns) (ps:=[[]]) (by simp)).imp λh e=>h (Ua e).2
 ·obtain⟨p,_,rfl⟩:=List.mem_map.mp hx;obtain⟨p',_,rfl⟩:=List.mem_map.mp hy;have:=(Ua e).1
  lia
def zB(gs:iZ ns)(h:r<=12):#v[J].length<=480:=by
 have:=aC9 (plU ns) r.toNat (by rw[Ab];exact aAz gs);rw[aAo,Ab]at this
 lia
def fIn(ns:List Str):List U->(List Str->List U->Prop)->Prop:=λus R=>us.length=ns.length/\R ns us
def uM:aQ ["self","value"] ["self","value"] (aC jC):={}
def aM9(F:Fun K "__init__" "Number.__init__" jC f fd)(cN:Cfl K C ["value"]):↥1 f fd ["self","value"] (spI C (fIn ["value"])):=by
 refine F.ok uM (λvs H Q E h=>?_) (λcdv A outer s H vs Q E hr h=>?_)
 ·obtain⟨x,dx,vs',H1,W,B,us,R,rfl,_,_,_,_,ds,⟨l,_⟩,_⟩:=h;rw[Am, <-ds.length,l];rfl
 ·obtain⟨x,dx,vs',H1,W,B,us,R,rfl,n1,hx,s1,eb,ds,⟨l,hR⟩,q⟩:=h;have nw:¬W x:=λz=>eb.dm x (eb.wb x z) n1;have f0:=eb.same s1;match us,l,vs',ds with
  | [u0],_,_,⟨v0,_,rfl,d0,rfl⟩=>
   refine#[_,(cW (eZ (pv 0) (pv 1) rfl)),?_];refine#[v0,rfl,_,rfl,x,C,dx,_,rfl,hx,cN.cl,cN.na _ (by simp),by show(0:Nat)<1000;decide,?_];have key:∀{H'},Fw W H1 H'->H' x=some (.ins C dx ((["value"]:List Str).zip [v0]))->Q .non H':=λfw hx=>q ["value"] _ [v0] _ hR fw hx rfl #[_,_,rfl,DU.mono #v[93] _ d0,rfl];exact key (f0.upd n1 nw) aP
def wM:aQ ["self","back","steps"] ["self","back","steps"] (aC lQ):={}
def aN6(F:Fun K "__init__" "Take.__init__" lQ f fd)(cN:Cfl K C ["back","steps"]):↥1 f fd ["self","back","steps"] (spI C (fIn ["back","steps"])):=by
 refine F.ok wM (λvs H Q E h=>?_) (λcdv A outer s H vs Q E hr h=>?_)
 ·obtain⟨x,dx,vs',H1,W,B,us,R,rfl,_,_,_,_,ds,⟨l,_⟩,_⟩:=h;rw[Am, <-ds.length,l];rfl
 ·obtain⟨x,dx,vs',H1,W,B,us,R,rfl,n1,hx,s1,eb,ds,⟨l,hR⟩,q⟩:=h;have nw:¬W x:=λz=>eb.dm x (eb.wb x z) n1;have f0:=eb.same s1;match us,l,vs',ds with
  | [u0,u1],_,_,⟨v0,_,rfl,d0,⟨v1,_,rfl,d1,rfl⟩⟩=>
   refine#[_,(bB (eZ (pv 0) (pv 1) rfl) (cW (eZ (pv 0) (pv 2) rfl))),?_];refine#[v0,rfl,_,rfl,x,C,dx,_,rfl,hx,cN.cl,cN.na _ (by simp),by show(0:Nat)<1000;decide,#[v1,rfl,_,rfl,x,C,dx,_,rfl,aP,cN.cl,cN.na _ (by simp),by show(1:Nat)<1000;decide,?_]];have key:∀{H'},Fw W H1 H'->H' x=some (.ins C dx ((["back","steps"]:List Str).zip [v0,v1]))->Q .non H':=λfw hx=>q ["back","steps"] _ [v0,v1] _ hR fw hx rfl #[_,_,rfl,DU.mono #v[93] _ d0,#[_,_,rfl,DU.mono #v[93] _ d1,rfl]];exact key ((f0.upd n1 nw).upd n1 nw) aP
def uH:aQ ["self","one","other"] ["self","one","other"] (aC iV):={}
def aGp(F:Fun K "__init__" "Paired.__init__" iV f fd)(cN:Cfl K C ["one","other"]):↥1 f fd ["self","one","other"] (spI C (fIn ["one","other"])):=by
 refine F.ok uH (λvs H Q E h=>?_) (λcdv A outer s H vs Q E hr h=>?_)
 ·obtain⟨x,dx,vs',H1,W,B,us,R,rfl,_,_,_,_,ds,⟨l,_⟩,_⟩:=h;rw[Am, <-ds.length,l];rfl
 ·obtain⟨x,dx,vs',H1,W,B,us,R,rfl,n1,hx,s1,eb,ds,⟨l,hR⟩,q⟩:=h;have nw:¬W x:=λz=>eb.dm x (eb.wb x z) n1;have f0:=eb.same s1;match us,l,vs',ds with
  | [u0,u1],_,_,⟨v0,_,rfl,d0,⟨v1,_,rfl,d1,rfl⟩⟩=>
   refine#[_,(bB (eZ (pv 0) (pv 1) rfl) (cW (eZ (pv 0) (pv 2) rfl))),?_];refine#[v0,rfl,_,rfl,x,C,dx,_,rfl,hx,cN.cl,cN.na _ (by simp),by show(0:Nat)<1000;decide,#[v1,rfl,_,rfl,x,C,dx,_,rfl,aP,cN.cl,cN.na _ (by simp),by show(1:Nat)<1000;decide,?_]];have key:∀{H'},Fw W H1 H'->H' x=some (.ins C dx ((["one","other"]:List Str).zip [v0,v1]))->Q .non H':=λfw hx=>q ["one","other"] _ [v0,v1] _ hR fw hx rfl #[_,_,rfl,DU.mono #v[93] _ d0,#[_,_,rfl,DU.mono #v[93] _ d1,rfl]];exact key ((f0.upd n1 nw).upd n1 nw) aP
abbrev MkB(P:Program)(w:World)(K:Ad)(mg:Str->#v[12])(base:Heap)(C:Addr)(x:Str)(ns:List Str):Prop:=MkU P w K mg base 1 C x ("self"::ns) (fIn ns)
def aT9(N:Cn)(CG CJ:Addr):Fv:=λus R=>∃ns rs ys r,us=[wD ns rs ys r,.wl]/\aJ0 ns rs ys r/\∀t ls zs,(∀z,z∈zs↔z∈ys)->zs.Pairwise (λx y=>wR x y=true)->R (.sh (rH N CG CJ ns rs t zs 97 r ls))
abbrev zO:List Str:=["_law_world_here","_law_tape_here","_law_term","_law_back","_law_steps","_law_deep","_law_first"]
def fV:aQ ["_law_world_here","_law_tape_here","_law_term","_law_back","_law_steps","_law_deep","_law_first"] ["_law_world_here","_law_tape_here"] (aC kE):={}
def aRq(F:Fun K "_law_job" "_law_job" kE f fd)(M_Number:MkB P w K mg base N.num "Number" ["value"])(M_Take:MkB P w K mg base N.take "Take" ["back","steps"])(M_Added:MkB P w K mg base (N.bin false) "Added" ["one","other"])(M_Multiplied:MkB P w K mg base (N.bin true) "Multiplied" ["one","other"])
  (M_Grid:MkU P w K mg base 5 CG "Grid" ["self","sizes","rims"] aHo) (M_Job:MkU P w K mg base 14 CJ "Job" ["self","grid","term","modulus","rounds","first"] (aIk N CG))
  (c__law_draw:#v[16]) (c__law_places:⇑1 "_law_places" ["_law_sizes"] (spV aDf)) (T:Txt mg):↥16 f fd ["_law_world_here","_law_tape_here"] (spV (aT9 N CG CJ)):=by
 refine vfn F fV (λcdv A outer s H E hr=>(aD (aZ (i:=2) fV.nd (lB M_Number (hr.mono ⋯) (aB aH aF))) (aD (cO Bc rfl (aX #v[t]) (qL rfl (cF (i:=3) fV.nd (cF (i:=4) fV.nd mF))) (aG (aZ (i:=2) fV.nd (lB M_Added (hr.mono ⋯) (aB (aA 2) (aB (lB M_Multiplied (hr.mono ⋯) (aB (lB M_Number (hr.mono ⋯) (aB (cT dH fH aH #v[b]) aF)) (aB (lB M_Take (hr.mono ⋯) (aB (aA 3) (aB (aA 4) aF))) aF))) aF)))))) (aD (aZ (i:=5) fV.nd (uW rfl T.max (aJ (dR (own:=["_law_back","_law_steps"]) (cap:=[]) (aC kE) zO rfl rfl (λx h=>aV h) #v[5] rfl (vic (aX #v[t])) ↑(xP rfl (fZ (aW (i:=0) (~~~["_law_back","_law_steps"]) rfl (Cv rfl) (Dc rfl)) (fZ (aW (i:=1) (~~~["_law_back","_law_steps"]) rfl (Cv rfl) (Dc rfl)) tD))) (aAd (is:=[0,1]) rfl ⋯) ↑(aA 0)) aM) aH)) (aD (aXq (i:=6) (own:=["_law_turn"]) (cap:=[("_law_world_here",0),("_law_tape_here",1)]) aJj fV.nd (aC kE) zO rfl rfl (λx h=>aV h) #v[5] rfl (vic (eV T.range (aJ (aA 5) aM))) (λcs cf C s2 H2 fp=>(aW (i:=0) (~~~["_law_turn","_law_world_here","_law_tape_here"]) rfl (Cv rfl) (Dc rfl))) (bC ⋯) (λcs cf C s2 H2 fp=>(aOw (own:=["_law_place"]) (icap:=[("_law_tape_here",2)]) (aC kE) cf rfl rfl #v[5] rfl (vic (aX (aL c__law_places (hr.mono ⋯) rfl (aB (bH aY bI (aA 1) aH) aF)))) (λcl C' s3 H3 fp'=>(aW (i:=0) (~~~["_law_place","_law_tape_here"]) rfl (Cv rfl) (Dc rfl))) (bC ⋯) (λcl C' s3 H3 fp'=>#v[b])))) (fO 6 (aG (aU (lB M_Job (hr.mono ⋯) (aB (lB M_Grid (hr.mono ⋯) (aB (dC (eG rfl) lC T.list Ew (aJ #v[t] aM)) (aB (dC (eG rfl) lC T.list Ew (aJ #v[t] aM)) aF))) (aB (aA 2) (aB aH (aB #v[t] (aB (aA 6) aF)))))))))))))) ?_;rintro _ R ⟨ns,rs,ys,r,rfl,g,q⟩;have l1:=g.gs.l1;have l3:=g.gs.l3;have yl:=g.yl;have l40:=aAz g.gs;refine#[rfl,rfl,_,rfl,?_];refine bG (λl ρ=>∃(rest dn:List Tk)(t:Tm)(a b c e:Sl),l=rest.map tkU/\dn++rest=ys/\ρ=[.sh #v[78],.sh .wl,.sh (enc N t),a,b,c,e]/\raw t=dn/\Wf t/\((ht t=1/\rest.length<=3)∨ht t+rest.length<=5)/\rF t+4*rest.length<=13) ?_ ?_ #[ys,[],.num 3,_,_,_,_,rfl,rfl,rfl,rfl,#[⋯,⋯],.inl #[rfl,yl],by show 1+_<=13;lia]
 ·rintro ρ ⟨rest,dn,t,a,b,c,e,el,ed,rfl,er,hw,hh,hp⟩;obtain rfl:rest=[]:=List.map_eq_nil_iff.mp el.symm;rw[Bb]at ed;subst ed;have pr:=aFn λn hn=>(g.gs.ok n hn).1;have p6:=g.p6;have r5:=g.r5;have r0:=g.r0;have rm:r*oF ns<=120:=Wp (Us r5 p6 ∅ ⋯) ⋯;have gj:∀ls:List (List Int),ls.length<=3->(∀zs,uX t zs->(ls.length:Int)=dpt zs)->(∀l∈ls,GoodR (oF ns) 97 l)->aT3 ns rs t 97 r ls:=λls h3 hd hl=>
   #[g.gs,g.rl,g.ro,by rcases hh with h|h<;>lia,#[hw,λx hx=>#[(g.yg x (er▸hx)).1,by have:=(g.yg x (er▸hx)).2;lia,by have:=(g.yg x (er▸hx)).2;lia]],∅,#[∅,λx hx=>(g.yg x (er▸hx)).2,dn,∅,λx hx=>er▸hx],#[⋯,⋯],#[r0,∅],rm,hd,h3,hl]
  have yp:∀y∈dn,1<=y.1/\y.1<=3:=λy hy=>#[(g.yg y hy).1.1,(g.yg y hy).1.2.1];have mem:∀{zs},uX t zs->∀z,z∈zs↔z∈dn:=λh z=>by rw[h.2 z,er]
  refine#[_,rfl,by rw[Ab];lia,aMp (g:=λy=> .n y.1) (α:=Unit) (λy hy k hk=>#[rfl,hk]) #[dn.map (·.1),by rw[Au];rfl,λh=>?_,λm hm ha=>?_]]
  ·have dq:∀zs,uX t zs->dpt zs=1:=λzs hz=>by
    have e0:=List.map_eq_nil_iff.mp h;have:zs=[]:=List.eq_nil_iff_forall_not_mem.mpr λz hz'=>by have:=(mem hz z).mp hz';rw[e0]at this;cases this
    rw[this];rfl
   refine#[∅,∅,by rw[cM];lia,jB (λx=>∃l:List Int,x=.ls (l.map U.n)/\GoodR (oF ns) 97 l) (λu hu c hc=>?_) λxs xl xp=>?_]
   ·refine#[_,rfl,ns,rfl,g.gs,l40,by rw[Ab];lia,jB (λx=>∃v:Int,x=.n v/\(0<=v/\v<97)) (λu hu c hc=>#[97,rfl,⋯,⋯,λv v0 v97=>hc _ #[v,rfl,v0,v97]]) λxs xl xp=>?_];obtain⟨l,rfl,hl⟩:=pull xp;rw[Ab,Ab]at xl;exact hc _ #[l,rfl,∅,∅,hl]
   ·obtain⟨ls,rfl,hl⟩:=pull xp;rw[Ab,cM]at xl;refine#[_,rfl,_,rfl,#[ns,rs,rfl,g.gs,g.rl,g.ro,_,rfl,ns,rs,t,97,r,ls,rfl,gj ls ∅ (λzs hz=>by have:=dq zs hz;lia) hl,λzs hz=>q t ls zs (mem hz) hz.1]]
  ·have dq:∀zs,uX t zs->dpt zs=m:=λzs hz=>by
    obtain⟨y,hy,e⟩:=List.mem_map.mp hm;refine aN1 (λy hy=>by have:=yp y ((mem hz y).mp hy);lia) (List.mem_map.mpr #[y,(mem hz y).mpr hy,e]) λa ha'=>?_;obtain⟨z,hz',e'⟩:=List.mem_map.mp ha';exact ha a (List.mem_map.mpr #[z,(mem hz z).mp hz',e'])
   have m13:1<=m/\m<=3:=by
    obtain⟨y,hy,e⟩:=List.mem_map.mp hm;have:=yp y hy
    lia
   refine#[∅,∅,by rw[cM];lia,jB (λx=>∃l:List Int,x=.ls (l.map U.n)/\GoodR (oF ns) 97 l) (λu hu c hc=>?_) λxs xl xp=>?_]
   ·refine#[_,rfl,ns,rfl,g.gs,l40,by rw[Ab];lia,jB (λx=>∃v:Int,x=.n v/\(0<=v/\v<97)) (λu hu c hc=>#[97,rfl,⋯,⋯,λv v0 v97=>hc _ #[v,rfl,v0,v97]]) λxs xl xp=>?_];obtain⟨l,rfl,hl⟩:=pull xp;rw[Ab,Ab]at xl;exact hc _ #[l,rfl,∅,∅,hl]
   ·obtain⟨ls,rfl,hl⟩:=pull xp;rw[Ab,cM]at xl;refine#[_,rfl,_,rfl,#[ns,rs,rfl,g.gs,g.rl,g.ro,_,rfl,ns,rs,t,97,r,ls,rfl,gj ls ∅ (λzs hz=>by have:=dq zs hz;lia) hl,λzs hz=>q t ls zs (mem hz) hz.1]]
 ·rintro u l ρ ⟨rest0,dn,t,a,b,c,e,el,ed,rfl,er,hw,hh,hp⟩ ih;cases rest0 with
  |nil=>cases el
  |cons y rest=>
   obtain⟨rfl,rfl⟩:=Dh el;rw[Am]at hh hp;refine#[rfl,4,rfl,⋯,⋯,λv v0 v4=>#[rfl,rfl,rfl,rfl,ih _ #[rest,dn++[y],.bin false t (.bin true (.num (1+v)) (.take y.1 y.2)),_,_,_,_,rfl,by rw[<-ed];simp,rfl,?_,?_,?_,?_]]]
   ·simp[raw,er]
   ·exact#[hw,#[∅,∅],trivial]
   ·right;simp only[ht];lia
   ·simp only[rF];lia
def aPy(h:q∈spS ns n):1<=q.1/\q.1<=n/\Inn ns q.2:=by
 obtain⟨j,hj,h⟩:=List.mem_flatMap.mp h;obtain⟨p,hp,rfl⟩:=List.mem_map.mp h;have hj:=List.mem_range.mp hj;refine#[by show 1<=1+(j:Int);lia,by show 1+(j:Int)<=n;lia,?_];have key:∀(ns:List Int)(ps:#v[z])(p:List Int),p∈ns.foldl (λps n=>ps.flatMap (ext n)) ps->∃p0∈ps,∃l,p=p0++l/\Inn ns l:=by
  intro ns;induction ns with
  |nil=>exactλps p h=>#[p,h,[],by simp,rfl]
  |cons n ns ih=>
   intro ps p h;obtain⟨p1,h1,l,rfl,hl⟩:=ih _ p h;obtain⟨p0,h0,h2⟩:=List.mem_flatMap.mp h1;obtain⟨i,hi,rfl⟩:=List.mem_map.mp h2;have hi:=List.mem_range.mp hi;exact#[p0,h0,(0+(i:Int))::l,by simp,_,_,rfl,∅,∅,hl]
 obtain⟨p0,h0,l,rfl,hl⟩:=key ns [[]] p hp;rw[List.mem_singleton.mp h0];exact hl
def Inn.len{ns l:List Int}(h:Inn ns l):l.length=ns.length:=by
 induction ns generalizing l with
 |nil=>rw[show l=[]from h]
 |cons n ns ih=>obtain⟨x,r,rfl,_,_,h⟩:=h;simp[ih h]
def Inn.zip{ns l:List Int}(h:Inn ns l):∀u∈vG (l.map U.n) #v[w],∃x n:Int,u=.tp [.n x,.n n]/\0<=x/\x<n:=by
 induction ns generalizing l with
 |nil=>rw[show l=[]from h];exact nofun
 |cons n ns ih=>
  obtain⟨x,r,rfl,h0,h1,h⟩:=h;intro u hu;rcases List.mem_cons.mp hu with rfl|hu
  ·exact#[x,n,rfl,h0,h1]
  ·exact ih h u hu
def aZp(C:Addr):Fv:=λus R=>∃(ns:List Int)(rs:List Rim)(p:List Int),us=[grU C ns rs,.tp (p.map U.n)]/\iZ ns/\Inn ns p/\R #v[x]
abbrev xK:List Str:=["self","thing"]
def uT:aQ ["self","thing"] ["self","thing"] (aC gH):={}
def aWn(F:Fun K "has_place" "Grid.has_place" gH f fd)(cG:Cfl K C ["sizes","rims"])(c_is_within:#v[i])(D_lines:Dis P w K mg base CX0 1 (·=C) "lines" ["self"] λ_=>spV (aHf C))(T:Txt mg):↥3 f fd ["self","thing"] (spV (aZp C)):=by
 refine vfn F uT (λcdv A outer s H E hr=>(aD (cB (iD (jA (cH (cI (iR .tp nofun T.isinstance T.tuple Lw (aA 1)))) (fB (bK (lM (huD hr)) dD #v[23] (cC (aA 0) D_lines (hr.mono ⋯)))))) #v[61] bA) (aG (aU (aO jQ (qY rfl) T.all Kw (aJ (dR (own:=["number","size"]) (cap:=[]) (aC gH) xK rfl rfl (λx h=>aV h) #v[5] rfl (vic (aXt T.zip (aB (aA 1) (aB (dW cG (aA 0)) aF)))) ↑(xP rfl (fZ (aW (i:=0) (~~~["number","size"]) rfl (Cv rfl) (Dc rfl)) (fZ (aW (i:=1) (~~~["number","size"]) rfl (Cv rfl) (Dc rfl)) tD))) (aAd (is:=[0,1]) rfl ⋯) ↑#v[Y]) aM)))))) ?_;rintro _ R ⟨ns,rs,p,rfl,gs,hp,q⟩;have el:p.length=ns.length:=hp.len;have l3:=gs.l3;refine#[rfl,_,rfl,nofun,λ_=>#[rfl,rfl,ns,rs,rfl,trivial,trivial,λz=>?_,λ_=>?_]]
 ·have z:(!(U.eq (.n ((p.map U.n).length:Nat)) (.n (ns.length:Nat))))=true:=z;rw[Ab,el,show U.eq (.n (ns.length:Nat)) (.n (ns.length:Nat))=true from beq_self_eq_true _]at z;cases z
 ·refine#[rfl,.inl #[rfl,by rw[Ab,Ab];lia,by simp[vG];lia,cD (h:=λ_=> .b true) (λu hu k hk=>?_) ?_]]
  ·obtain⟨x,n,rfl,h0,h1⟩:=hp.zip u hu;refine#[rfl,_,_,_,_,rfl,rfl,?_];show k (some (.b (isIn (.n x) 0 (n-1))));rw[show isIn (.n x) 0 (n-1)=true by simp[isIn];lia];exact hk
  ·refine#[(vG (p.map U.n) #v[w]).map λ_=>true,by rw[Au];rfl,?_];exact Rbl q (by simp)
def aJu(N:Cn)(CG CJ:Addr):Fv:=λus R=>∃ns rs t ys m r ls,∃q:Tk,us=[rH N CG CJ ns rs t ys m r ls,tkU q]/\iZ ns/\0<=r/\q∈spS ns r.toNat/\R #v[x]
def aAx:aQ ["self","thing"] ["self","thing"] (aC oM):={}
def aL3(F:Fun K "is_spot" "Job.is_spot" oM f fd)(cJ:#v[71])(c_is_within:#v[i])(D_has_place:Dis P w K mg base CX0 3 (·=CG) "has_place" ["self","thing"] λ_=>spV (aZp CG))(T:Txt mg):↥4 f fd ["self","thing"] (spV (aJu N CG CJ)):=by
 refine vfn F aAx (λcdv A outer s H E hr=>(aD (cB (iD (jA (cH (cI (iR .tp nofun T.isinstance T.tuple Lw (aA 1)))) (fB (bK (lM (huD hr)) dD #v[23] aH)))) #v[61] bA) (aG (aU (lV (aL c_is_within (hr.mono ⋯) rfl (aB (bH aY bI (aA 1) aH) (aB aH (aB (dW cJ (aA 0)) aF)))) (lO (aI6 (dW cJ (aA 0)) D_has_place (hr.mono ⋯) (aB (bH aY bI (aA 1) aH) aF)))))))) ?_;rintro _ R ⟨ns,rs,t,ys,m,r,ls,q0,rfl,gs,r0,hq,q⟩;obtain⟨h1,h2,hi⟩:=aPy hq;refine#[rfl,_,rfl,nofun,λ_=>#[trivial,trivial,λz=>?_,λ_=>?_]]
 ·have z:false=true:=z;cases z
 refine#[_,rfl,rfl,show aBa "rounds" ["taken","grid","term","modulus","rounds","first"] _ _ from aAu (xs:=["taken","grid","term","modulus","rounds","first"]) (k:=4) (u:=.n r) ?_ #v[5] rfl rfl];refine#[_,_,_,_,rfl,rfl,λ_=>?_,λz=>?_]
 ·refine#[rfl,show aBa "grid" ["taken","grid","term","modulus","rounds","first"] _ _ from aAu (xs:=["taken","grid","term","modulus","rounds","first"]) (k:=1) (u:=grU CG ns rs) ?_ #v[5] rfl rfl];exact#[rfl,by decide+kernel,_,rfl,ns,rs,q0.2,rfl,gs,hi,q]
 ·have z:isIn (.n q0.1) 1 r=false:=z;have:isIn (.n q0.1) 1 r=true:=by simp[isIn];lia
  rw[this]at z;cases z
def aDx(N:Cn)(CG CJ:Addr):Fv:=λus R=>∃ns rs t ys m r ls,∃l:List Tk,us=[rH N CG CJ ns rs t ys m r ls,.ls (l.map tkU)]/\iZ ns/\0<=r/\l.length<=480/\(∀q∈l,q∈spS ns r.toNat)/\R #v[x]
abbrev aE3:List Str:=["job","thing"]
def aC3:aQ ["job","thing"] ["job","thing"] (aC oH):={}
def aQz(F:Fun K "are_spots" "are_spots" oH f fd)(D_is_spot:Dis P w K mg base CX0 4 (·=CJ) "is_spot" ["self","thing"] λ_=>spV (aJu N CG CJ))(T:Txt mg):↥5 f fd ["job","thing"] (spV (aDx N CG CJ)):=by
 refine vfn F aC3 (λcdv A outer s H E hr=>(aG (aU (lV (iR .ls nofun T.isinstance T.list Ew (aA 1)) (lO (aO jQ (qY rfl) T.all Kw (aJ (dR (own:=["spot"]) (cap:=[("job",0)]) (aC oH) aE3 rfl rfl (λx h=>aV h) #v[5] rfl (vic (aX (aA 1))) ↑(aW (i:=0) (~~~["spot","job"]) rfl (Cv rfl) (Dc rfl)) (bC ⋯) ↑(aI6 (aA 1) D_is_spot (hr.mono ⋯) (aB (aA 0) aF))) aM))))))) ?_;rintro _ R ⟨ns,rs,t,ys,m,r,ls,l,rfl,gs,r0,ll,hl,q⟩;refine#[rfl,_,rfl,λ_=>?_,nofun];refine#[by rw[Ab];lia,cD (h:=λ_=> .b true) (λu hu k hk=>?_) ?_]
 ·obtain⟨q0,hq,rfl⟩:=List.mem_map.mp hu;exact#[rfl,by decide+kernel,ns,rs,t,ys,m,r,ls,q0,rfl,gs,r0,hl q0 hq,hk]
 ·refine#[(l.map tkU).map λ_=>true,by rw[Au,Au,Au];rfl,?_];exact Rbl q (by simp)
def aTt(N:Cn)(CG CJ:Addr):Fv:=λus R=>∃ns rs t ys m r ls,∃l:List Tk,us=[rH N CG CJ ns rs t ys m r ls,.ls (l.map tkU)]/\iZ ns/\0<=r/\l.length<4/\(∀q∈l,q∈spS ns r.toNat)/\l.Nodup/\R #v[x]
def aBg:aQ ["job","thing"] ["job","thing"] (aC qH):={}
def aQ6(F:Fun K "are_wanted" "are_wanted" qH f fd)(c_are_spots:#v[94])(T:Txt mg):↥6 f fd ["job","thing"] (spV (aTt N CG CJ)):=by
 refine vfn F aBg (λcdv A outer s H E hr=>(aG (aU (lV (aL c_are_spots (hr.mono ⋯) rfl (aB (aA 0) (aB (aA 1) aF))) (lO (iB #v[V] dD (aRv hr rfl T.len T.set (aJ (aA 1) aM)) #v[23])))))) ?_;rintro _ R ⟨ns,rs,t,ys,m,r,ls,l,rfl,gs,r0,ll,hl,nd,q⟩;refine#[rfl,ns,rs,t,ys,m,r,ls,l,rfl,gs,r0,∅,hl,λ_=>?_,nofun];refine#[l,rfl,ll,λn hn=>#[trivial,trivial,?_]];have e:U.eq (.n (n:Nat)) (.n ((l.map tkU).length:Nat))=true:=by rw[Ab,hn nd];exact beq_self_eq_true _
 show R (.sh (.b (U.eq (.n (n:Nat)) (.n ((l.map tkU).length:Nat)))));rw[e];exact q
abbrev pcU(ps:#v[88]):List U:=ps.map λp=> .ls (p.map tkU)
abbrev rwU(rs:#v[d]):List U:=rs.map λr=> .ls (r.map λn:Nat=>U.n n)
abbrev prU(ps:List (Nat×Nat)):List U:=ps.map λp=> .tp [.n p.1,.n p.2]
def aU1(ns:List Int)(r:Int)(ps:#v[88]):Prop:=ps.length<=120/\∀p∈ps,p≠[]/\p.length<=480/\∀q∈p,q∈spS ns r.toNat
def aUe(N:Cn)(CG CJ:Addr):Fv:=λus R=>∃ns rs t ys m r ls,∃ps:List (List Tk),us=[rH N CG CJ ns rs t ys m r ls,.ls (pcU ps)]/\iZ ns/\0<=r/\aU1 ns r ps/\R #v[x]
abbrev aC8:List Str:=["job","thing"]
def aBp:aQ ["job","thing"] ["job","thing"] (aC mG):={}
def aRk(F:Fun K "are_pieces" "are_pieces" mG f fd)(c_are_spots:#v[94])(T:Txt mg):↥6 f fd ["job","thing"] (spV (aUe N CG CJ)):=by
 refine vfn F aBp (λcdv A outer s H E hr=>(aD (cB (cH (cI (iR .ls nofun T.isinstance T.list Ew (aA 1)))) #v[61] bA) (aG (aU (aO jQ (qY rfl) T.all Kw (aJ (dR (own:=["piece"]) (cap:=[("job",0)]) (aC mG) aC8 rfl rfl (λx h=>aV h) #v[5] rfl (vic (aX (aA 1))) ↑(aW (i:=0) (~~~["piece","job"]) rfl (Cv rfl) (Dc rfl)) (bC ⋯) ↑(lV (aL c_are_spots (hr.mono ⋯) rfl (aB (aA 1) (aB (aA 0) aF))) (lO (iB lF cU #v[a] aH)))) aM)))))) ?_;rintro _ R ⟨ns,rs,t,ys,m,r,ls,ps,rfl,gs,r0,gp,q⟩;refine#[rfl,_,rfl,nofun,λ_=>?_];have pl:=gp.1;refine#[by rw[Ab];lia,cD (h:=λ_=> .b true) (λu hu k hk=>?_) ?_]
 ·obtain⟨p,hp,rfl⟩:=List.mem_map.mp hu;obtain⟨p0,p1,p2⟩:=gp.2 p hp;refine#[ns,rs,t,ys,m,r,ls,p,rfl,gs,r0,p1,p2,λ_=>?_,nofun];have:0<(p.map tkU).length:=by rw[Ab];exact List.length_pos_iff.mpr p0
  show k (some (.b (decide (((p.map tkU).length:Int)>0))));rw[decide_eq_true ∅];exact hk
 ·refine#[(pcU ps).map λ_=>true,by rw[Au,Au,Au];rfl,?_];exact Rbl q (by simp)
def aGx:Fv:=λus R=>∃(l:List Nat)(n:Nat),(us=[.ls (l.map λn:Nat=>U.n n),.n n]∨us=[.tp (l.map λn:Nat=>U.n n),.n n])/\l.length<=10000/\(∀x∈l,x<n)/\R #v[x]
abbrev aFd:List Str:=["things","many"]
def aDd:aQ ["things","many"] ["things","many"] (aC oA):={}
def aQ0(F:Fun K "are_below" "are_below" oA f fd)(c_is_within:#v[i])(T:Txt mg):↥3 f fd ["things","many"] (spV aGx):=by
 refine vfn F aDd (λcdv A outer s H E hr=>(aG (aU (aO jQ (qY rfl) T.all Kw (aJ (dR (own:=["thing"]) (cap:=[("many",1)]) (aC oA) aFd rfl rfl (λx h=>aV h) #v[5] rfl (vic (bAf (aX (aA 0)) (aOi (aA 0)))) ↑(aW (i:=0) (~~~["thing","many"]) rfl (Cv rfl) (Dc rfl)) (bC ⋯) ↑#v[Y]) aM))))) ?_;rintro _ R ⟨l,n,eu,ll,hl,q⟩;have kl:(l.map λn:Nat=>U.n n).length<=10000:=by rw[Ab];exact ll
 rcases eu with rfl|rfl
 ·refine#[rfl,.inl #[kl,cD (h:=λ_=> .b true) (λu hu k hk=>?_) ?_]]
  ·obtain⟨x,hx,rfl⟩:=List.mem_map.mp hu;refine#[_,_,_,_,rfl,rfl,?_];have:=hl x hx;show k (some (.b (isIn (.n x) 0 ((n:Int)-1))));rw[show isIn (.n (x:Int)) 0 ((n:Int)-1)=true by simp[isIn];lia];exact hk
  ·exact#[(l.map λn:Nat=>U.n n).map λ_=>true,by rw[Au,Au,Au];rfl,Rbl q (by simp)]
 ·refine#[rfl,.inr #[kl,cD (h:=λ_=> .b true) (λu hu k hk=>?_) ?_]]
  ·obtain⟨x,hx,rfl⟩:=List.mem_map.mp hu;refine#[_,_,_,_,rfl,rfl,?_];have:=hl x hx;show k (some (.b (isIn (.n x) 0 ((n:Int)-1))));rw[show isIn (.n (x:Int)) 0 ((n:Int)-1)=true by simp[isIn];lia];exact hk
  ·exact#[(l.map λn:Nat=>U.n n).map λ_=>true,by rw[Au,Au,Au];rfl,Rbl q (by simp)]
theorem aD6:∀(l m:List Nat),D.eqs (U.ds (l.map λn:Nat=>U.n n)) (U.ds (m.map λn:Nat=>U.n n))=decide (l=m)
 | [],[]=>rfl
 | [],_::_=>rfl
 |_::_,[]=>rfl
 |a::l,b::m=>by
  show(eqV (.int a) (.int b) && D.eqs (U.ds (l.map λn:Nat=>U.n n)) (U.ds (m.map λn:Nat=>U.n n)))=_;rw[aD6 l m];simp[eqV];by_cases h:a=b<;>simp[h]
  lia
theorem aAr(n:Nat):∀l:List Nat,U.dts n (l.map λn:Nat=>U.n n)
 | []=>by rw[Fm,U.dts];trivial
 |i::l=>by
  rw[Ba,U.dts];exact#[by rw[U.dt];trivial,aAr n l]
def Shared(rs:#v[d])(n:Nat):Prop:=rs.flatten.Perm (Bh n)
def aHs{ms:List Int}{l:List Nat}(h:ms.Perm (l.map λn:Nat=>(n:Int)))(p:ms.Pairwise (·<=·))(hl:l.Perm (Bh n)):ms=(Bh n).map λn:Nat=>(n:Int):=by
 refine List.Perm.eq_of_pairwise (le:=(·<=·)) (λa b _ _ h1 h2=>Int.le_antisymm h1 h2) p ?_ (h.trans (hl.map _));rw[Gz];exact(Px (n:=n)).imp λh=>by lia
def aDu:Fv:=λus R=>∃(rs:#v[d])(n:Nat),us=[.ls (rwU rs),.n n]/\Shared rs n/\n<64/\rs.length<=100/\R #v[x]
def jR:aQ ["thing","many","numbers","row"] ["thing","many"] (aC jW):={}
def aKq(F:Fun K "are_shared_out" "are_shared_out" jW f fd)(c_are_below:⇑3 "are_below" ["things","many"] (spV aGx))(T:Txt mg):↥4 f fd ["thing","many"] (spV aDu):=by
 refine vfn F jR (λcdv A outer s H E hr=>(aD (cB #v[19] #v[61] bA) (aD (aZ (i:=2) jR.nd (bL aF)) (aD (cO Bc rfl (aX (aA 0)) (cR (i:=3) jR.nd) (aD (cB (iD (jA (cH (cI (iR .ls nofun T.isinstance T.list Ew (aA 3)))) (fB (cH (cI (aL c_are_below (hr.mono ⋯) rfl (aB (aA 3) (aB (aA 1) aF)))))))) #v[61] bA) (aG (wK 2 (aA 3))))) (aG (aU (iB #v[V] dD (aO yC aJd T.sorted Pu (aJ (aA 2) aM)) (aZf rfl T.list T.range (aJ (aA 1) aM))))))))) ?_;rintro _ R ⟨rs,n,rfl,sh,n64,rl,q⟩;have fl:rs.flatten.length=n:=by rw[sh.length_eq,Cw]
 refine#[rfl,_,rfl,nofun,λ_=>?_];refine bG (λl ρ=>∃(dn rst:#v[d])(a:Sl),l=rwU rst/\dn++rst=rs/\ρ=[.sh (.ls (rwU rs)),.sh (.n n),.ow (dn.flatten.map λn:Nat=>U.n n),a]) ?_ ?_ #[[],rs,_,rfl,rfl,rfl]
 ·rintro ρ ⟨dn,rst,a,el,ed,rfl⟩;obtain rfl:rst=[]:=List.map_eq_nil_iff.mp el.symm;rw[Bb]at ed;subst ed;refine#[dn.flatten.map λn:Nat=>(n:Int),by rw[Au];rfl,by rw[Ab];lia,λms h1 h2=>?_];obtain rfl:=aHs h1 h2 sh;have e:gR 0 n=(Bh n).map λn:Nat=>U.n n:=by
   unfold gR;exact Jg λi _=>by simp
  refine#[n,rfl,∅,?_];rw[e];have e2:((Bh n).map λn:Nat=>(n:Int)).map U.n=(Bh n).map λn:Nat=>U.n n:=by rw[Au];rfl
  rw[e2];refine#[aAr 39 _,aAr 39 _,?_];show R (.sh (.b (D.eqs (U.ds ((Bh n).map λn:Nat=>U.n n)) (U.ds ((Bh n).map λn:Nat=>U.n n)))));rw[aD6,decide_eq_true rfl];exact q
 ·rintro u l ρ ⟨dn,rst,a,el,ed,rfl⟩ ih;cases rst with
  |nil=>cases el
  |cons r rst=>
   cases el;have hr:∀x∈r,x<n:=λx hx=>List.mem_range.mp (sh.subset (by rw[<-ed];simp[hx]));have dl:dn.flatten.length+r.length<=n:=by
    rw[<-fl, <-ed];simp
   refine#[_,rfl,nofun,λ_=>#[r,n,.inl rfl,∅,hr,nofun,λ_=>?_]];refine#[by rw[Ab,Ab];lia,ih _ #[dn++[r],rst,.sh (.ls (r.map λn:Nat=>U.n n)),rfl,by rw[<-ed];simp,by rw[Lh,Ca,List.flatten_singleton];rfl]]
def aNt:Fv:=λus R=>∃n:Nat,us=[.n n]/\1<=n/\n<=4/\R #v[x]
def wJ:aQ ["thing"] ["thing"] (aC lN):={}
def aOl(F:Fun K "is_hand_count" "is_hand_count" lN f fd)(c_is_within:#v[i])(T:Txt mg):↥3 f fd ["thing"] (spV aNt):=by
 obtain⟨_,g_MOST_HANDS⟩:=T.c_MOST_HANDS;refine vfn F wJ (λcdv A outer s H E hr=>(aG (aU (aL c_is_within (hr.mono ⋯) rfl (aB (aA 0) (aB aH (aB (dB g_MOST_HANDS) aF))))))) ?_;rintro _ R ⟨n,rfl,n1,n4,q⟩;refine#[rfl,_,_,_,_,rfl,rfl,?_];show R (.sh (.b (isIn (.n (n:Int)) 1 4)));rw[show isIn (.n (n:Int)) 1 4=true by simp[isIn];lia];exact q
def aOo:Fv:=λus R=>∃(rs:#v[d])(n:Nat),us=[.ls (rwU rs),.n n]/\Shared rs n/\n<64/\1<=rs.length/\rs.length<=4/\R #v[x]
def aDa:aQ ["thing","many"] ["thing","many"] (aC rQ):={}
def aN8(F:Fun K "are_hands" "are_hands" rQ f fd)(c_are_shared_out:⇑4 "are_shared_out" ["thing","many"] (spV aDu))(c_is_hand_count:⇑3 "is_hand_count" ["thing"] (spV aNt))(T:Txt mg):↥5 f fd ["thing","many"] (spV aOo):=by
 refine vfn F aDa (λcdv A outer s H E hr=>(aG (aU (lV (aL c_are_shared_out (hr.mono ⋯) rfl (aB (aA 0) (aB (aA 1) aF))) (lO (aL c_is_hand_count (hr.mono ⋯) rfl (aB #v[a] aF))))))) ?_;rintro _ R ⟨rs,n,rfl,sh,n64,r1,r4,q⟩;exact#[rfl,rs,n,rfl,sh,n64,∅,λ_=>#[rs.length,by rw[Ab],r1,r4,q],nofun]
def aTw:Fv:=λus R=>∃a b n:Nat,us=[.tp [.n a,.n b],.n n]/\a<n/\b<n/\R #v[x]
def aGv:aQ ["thing","many"] ["thing","many"] (aC wQ):={}
def aQ9(F:Fun K "is_wait" "is_wait" wQ f fd)(c_are_below:⇑3 "are_below" ["things","many"] (spV aGx))(T:Txt mg):↥4 f fd ["thing","many"] (spV aTw):=by
 refine vfn F aGv (λcdv A outer s H E hr=>(aG (aU (lV (iR .tp nofun T.isinstance T.tuple Lw (aA 0)) (lV (iB #v[V] dD #v[a] aH) (lO (aL c_are_below (hr.mono ⋯) rfl (aB (aA 0) (aB (aA 1) aF))))))))) ?_;rintro _ R ⟨a,b,n,rfl,ha,hb,q⟩;refine#[rfl,_,rfl,λ_=>#[trivial,trivial,λ_=>?_,λz=>?_],nofun]
 ·exact⟨[a,b],n,.inr rfl,by show 2<=10000;decide,λx hx=>by
   rcases List.mem_cons.mp hx with rfl|hx
   ·exact ha
   ·rw[List.mem_singleton.mp hx];exact hb,q⟩
 ·have z:false=true:=z.symm;cases z
def aOs:Fv:=λus R=>∃(ps:List (Nat×Nat))(n:Nat),us=[.ls (prU ps),.n n]/\(∀p∈ps,p.1<n/\p.2<n)/\ps.length<=400/\R #v[x]
abbrev aF2:List Str:=["thing","many"]
def aDg:aQ ["thing","many"] ["thing","many"] (aC oG):={}
def aP0(F:Fun K "are_waits" "are_waits" oG f fd)(c_is_wait:⇑4 "is_wait" ["thing","many"] (spV aTw))(T:Txt mg):↥5 f fd ["thing","many"] (spV aOs):=by
 obtain⟨_,g_MOST_WAITS⟩:=T.c_MOST_WAITS;refine vfn F aDg (λcdv A outer s H E hr=>(aD (cB (iD (jA #v[19] (fB (bK lF cU #v[a] (dB g_MOST_WAITS))))) #v[61] bA) (aG (aU (aO jQ (qY rfl) T.all Kw (aJ (dR (own:=["wait"]) (cap:=[("many",1)]) (aC oG) aF2 rfl rfl (λx h=>aV h) #v[5] rfl (vic (aX (aA 0))) ↑(aW (i:=0) (~~~["wait","many"]) rfl (Cv rfl) (Dc rfl)) (bC ⋯) ↑(aL c_is_wait (hr.mono ⋯) rfl (aB (aA 0) (aB (aA 1) aF)))) aM)))))) ?_;rintro _ R ⟨ps,n,rfl,hp,pl,q⟩;refine#[rfl,_,rfl,nofun,λ_=>#[λz=>?_,λ_=>?_]]
 ·have z:=of_decide_eq_true z;rw[Ab]at z
  lia
 ·refine#[by rw[Ab];lia,cD (h:=λ_=> .b true) (λu hu k hk=>?_) ?_]
  ·obtain⟨p,h,rfl⟩:=List.mem_map.mp hu;exact#[p.1,p.2,n,rfl,(hp p h).1,(hp p h).2,hk]
  ·exact#[(prU ps).map λ_=>true,by rw[Au,Au,Au];rfl,Rbl q (by simp)]
def kv0(l:List Tk):List (Tke×U):=l.map λq=>(q,.n 0)
def aQn(P:Program)(w:World)(N:Cn)(CG CJ:Addr):Fv:=λus R=>∃ns rs t ys m r ls,us=[rH N CG CJ ns rs t ys m r ls,.op #v[g].fz]/\iZ ns/\(rY ns).length<=40/\0<=r/\r<=12/\R #v[x]
abbrev aFi:List Str:=["job","thing"]
def aDr:aQ ["job","thing"] ["job","thing"] (aC nR):={}
def aOc(F:Fun K "are_slots" "are_slots" nR f fd)(c_is_within:#v[i])(D_all_spots:Dis P w K mg base CX0 3 (·=CJ) "all_spots" ["self"] λ_=>spV (aT0 N CG CJ))(c_are_spots:#v[94])(T:Txt mg):↥6 f fd ["job","thing"] (spV (aQn P w N CG CJ)):=by
 obtain⟨_,g_GREATEST_SLOT⟩:=T.c_GREATEST_SLOT;refine vfn F aDr (λcdv A outer s H E hr=>(aD (cB (iD (jA (cH (cI (aVy (P:=P) (w:=w) rfl rfl T.isinstance T.dict (aA 1)))) (fB (bK (lM (huD hr)) dD (aRb (P:=P) (w:=w) rfl rfl T.len (aA 1)) (aO aK bF T.len Br (aJ (cC (aA 0) D_all_spots (hr.mono ⋯)) aM)))))) #v[61] bA) (aG (aU (lV (aL c_are_spots (hr.mono ⋯) rfl (aB (aA 0) (aB (aQv (P:=P) (w:=w) rfl rfl rfl T.list (aA 1)) aF))) (lO (aO jQ (qY rfl) T.all Kw (aJ (aWt (P:=P) (w:=w) 1 (dR (own:=["slot"]) (cap:=[]) (aC nR) aFi rfl rfl (λx h=>aV h) #v[5] rfl (vic (aJb (P:=P) (w:=w) rfl rfl (aA 1))) ↑(aW (i:=0) (~~~["slot"]) rfl (Cv rfl) (Dc rfl)) (bC ⋯) ↑(aL c_is_within (hr.mono ⋯) rfl (aB (aA 0) (aB aH (aB (dB g_GREATEST_SLOT) aF)))))) aM)))))))) ?_;rintro _ R ⟨ns,rs,t,ys,m,r,ls,rfl,gs,a40,r0,r12,q⟩;have sl:=zB gs r12;have kl:(kv0 #v[J]).length=#v[J].length:=by unfold kv0;rw[Ab]
 refine#[rfl,#[_,.inr (.inr rfl)],nofun,λ_=>#[_,.inr (.inr rfl),by rw[kl];lia,rfl,by decide+kernel,ns,rs,t,ys,m,r,ls,rfl,gs,a40,r0,r12,?_]];rw[aAo];have ke:(kv0 #v[J]).map (λp=>tkU p.1)=#v[J].map tkU:=by unfold kv0;rw[Au];rfl
 have kv:(kv0 #v[J]).map (·.2)=#v[J].map λ_=>U.n 0:=by unfold kv0;rw[Au];rfl
 have tt0:∀l:List Tk,U.tts (l.map λ_=>U.n 0):=λl=>by
  induction l with
  |nil=>trivial
  |cons _ _ ih=>exact#[trivial,ih]
 refine#[trivial,trivial,λz=>?_,λ_=>?_]
 ·have z:(!(U.eq (.n ((kv0 #v[J]).length:Nat)) (.n ((#v[J].map tkU).length:Nat))))=true:=z;rw[kl,Ab,show U.eq (.n (#v[J].length:Nat)) (.n (#v[J].length:Nat))=true from beq_self_eq_true _]at z;cases z
 refine#[_,.inr (.inr rfl),by rw[kl];lia,?_];rw[ke];refine#[ns,rs,t,ys,m,r,ls,spS ns r.toNat,rfl,gs,r0,sl,λq h=>h,λ_=>?_,nofun];refine#[_,_,rfl,.inr (.inr rfl),by rw[kv];exact tt0 _,[.no,.no],.no (.no .nil),λd ob hu=>?_];refine#[d,ob,hu,_,rfl,?_];rw[kv];refine#[by rw[Ab];lia,cD (h:=λ_=> .b true) (λu hu k hk=>?_) ?_]
 ·obtain⟨_,_,rfl⟩:=List.mem_map.mp hu;exact#[_,_,_,_,rfl,rfl,hk]
 ·refine#[?_,#v[J].map λ_=>true,by rw[Au,Au];rfl,Rbl q (by simp)];show U.tts ([]++((#v[J].map λ_=>U.n 0).map λ_=>U.b true));rw[Bd,Au];have:∀l:List Tk,U.tts (l.map ((λ_=>U.b true)∘λ_=>U.n 0)):=λl=>by
   induction l with
   |nil=>trivial
   |cons _ _ ih=>exact#[trivial,ih]
  exact this _
variable {CG CJ CP:Addr}
abbrev pNm:List Str:=["job","pieces","hands","waits","slots","wanted"]
def aM5(P:Program)(w:World)(j:U)(ps:#v[88])(hs:#v[d])(wt:List (Nat×Nat))(sl:List Tk):List U:=[j,.ls (pcU ps),.ls (rwU hs),.ls (prU wt),.op (pdO P w (kv0 sl)).fz,.ls []]
structure aI1(ns:List Int)(r:Int)(ps:#v[88])(hs:#v[d])(wt:List (Nat×Nat)):Prop where
 gs:iZ ns
 a40:(rY ns).length<=40
 mn:oF ns<=40
 r0:0<=r
 r12:r<=12
 gp:aU1 ns r ps
 n64:ps.length<64
 sh:Shared hs ps.length
 h1:1<=hs.length
 h4:hs.length<=4
 wk:∀p∈wt,p.1<ps.length/\p.2<ps.length
 wl:wt.length<=400
inductive aJq(P:Program)(w:World)(N:Cn)(CG CJ:Addr)(us:List U)(R:(List Str->List U->Prop)):Prop
 |mk (ns rs t ys m r ls:_) (ps:#v[88]) (hs:#v[d]) (wt:List (Nat×Nat)) (q0_:us=[rH N CG CJ ns rs t ys m r ls,.ls (pcU ps),.ls (rwU hs),.ls (prU wt),.op #v[g].fz,.ls []]) (q1_:aI1 ns r ps hs wt) (q2_:R pNm (aM5 P w #v[20] ps hs wt #v[J])):aJq P w N CG CJ us R
def aGt(P:Program)(w:World)(N:Cn)(CG CJ:Addr):List U->(List Str->List U->Prop)->Prop:=λus R=>aJq P w N CG CJ us R
def aYr(ps:#v[88]):U.dts 9 (pcU ps):=by
 induction ps with
 |nil=>trivial
 |cons p ps ih=>exact#[yZ 6 p,ih]
def bAz(rs:#v[d]):U.dts 9 (rwU rs):=by
 induction rs with
 |nil=>trivial
 |cons r rs ih=>exact#[aAr 8 r,ih]
def aYq(ps:List (Nat×Nat)):U.dts 9 (prU ps):=by
 induction ps with
 |nil=>trivial
 |cons p ps ih=>exact#[#[trivial,trivial,trivial],ih]
def aSq{x C dx:Addr}(h:H x=some #v[82])(dv:DU W B H (.op (pdO P w (kv0 l)).fz) v):DU W B (upd H x o) (.op (pdO P w (kv0 l)).fz) v:=by
 obtain⟨p,S,e,nS,sS,xs,hp,r⟩:=dv;refine#[p,S,e,nS,sS,xs,(aN (λz:p=x=>by rw[z,h]at hp;cases hp)).trans hp,?_];clear hp;have key:∀{kvs:List (Tke×U)}{xs:#v[13]},PdR W B H kvs xs->(∀p∈kvs,p.2=U.n 0)->PdR W B (upd H x o) kvs xs:=by
  intro kvs xs r;induction r with
  |nil=>exactλ_=> .nil
  |cons d rv dv t ih=>
   intro hk;have e:_=U.n 0:=hk _ Ah;refine .cons (DU.data (eU h) 7 _ (yZ 5 [_]).1 d) rv ?_ (ih λp hp=>hk p (Af _ hp));subst e;exact dv
 exact key r λp hp=>by obtain⟨q,_,rfl⟩:=List.mem_map.mp hp;rfl
theorem aIx:∀(ns:List Int)(ps:#v[z]),(∀n∈ns,n<=9)->(∀p∈ps,∀x∈p,0<=x/\x<=8)->∀p∈ns.foldl (λps n=>ps.flatMap (ext n)) ps,∀x∈p,0<=x/\x<=8
 | [],_,_,hp=>hp
 |n::ns,ps,h,hp=>aIx ns #v[H] (λx hx=>h x (Af _ hx)) λp hq=>by
  obtain⟨p0,h0,h1⟩:=List.mem_flatMap.mp hq;obtain⟨i,hi,rfl⟩:=List.mem_map.mp h1;have hn:=h n Ah;have hi:=List.mem_range.mp hi;refineλx hx=>(List.mem_append.mp hx).elim (hp p0 h0 x) λhx=>?_;rw[List.mem_singleton.mp hx]
  lia
theorem aEn:∀(ns:List Int)(ps:#v[z])(B:Int),(∀n∈ns,1<=n)->(∀p∈ps,0<=plP p/\plP p<=B)->∀p∈ns.foldl (λps n=>ps.flatMap (ext n)) ps,plP p<=ns.foldl (λa n=>a*n) B
 | [],_,_,_,hp=>λp h=>(hp p h).2
 |n::ns,ps,B,h,hp=>aEn ns #v[H] (B*n) (λx hx=>h x (Af _ hx)) λp hq=>by
  obtain⟨p0,h0,h1⟩:=List.mem_flatMap.mp hq;obtain⟨i,hi,rfl⟩:=List.mem_map.mp h1;have hn:=h n Ah;have hi:=List.mem_range.mp hi;obtain⟨a,b⟩:=hp p0 h0;have e:plP (p0++[0+(i:Int)])=plP p0*(0+(i:Int)+1):=by unfold plP;rw[Rx];rfl
  rw[e];exact#[Ur a ∅,Us b ∅ ∅ ∅]
def aQy(gs:iZ ns)(r12:r<=12):(#v[J].map #v[27].hash).Nodup:=by
 unfold Rz;rw[Gz];have ok:∀q∈spS ns r.toNat,1<=q.1/\q.1<=12/\q.2.length=ns.length/\(∀a∈q.2,0<=a/\a<=8)/\plP q.2<=40:=λq hs=>by
  obtain⟨g1,g2,g3⟩:=aPy hs;refine#[g1,∅,g3.len,?_];obtain⟨j,_,hs⟩:=List.mem_flatMap.mp hs;obtain⟨p,hp,rfl⟩:=List.mem_map.mp hs;exact#[aIx ns [[]] (λn hn=>(gs.ok n hn).2) (λp hp=>by rw[List.mem_singleton.mp hp];exact nofun) p hp,Wp (aEn ns [[]] 1 (λn hn=>(gs.ok n hn).1) (λp hp=>by rw[List.mem_singleton.mp hp];decide) p hp) gs.mn]
 refine(List.Pairwise.and_mem.mp (aPl ns r.toNat)).imp λ{x y} h e=>h.2.2 (aXb (n:=ns.length) gs.l1 gs.l3 (ok x h.1) (ok y h.2.1) e)
def aGr(l:List Tk):(kv0 l).map (·.1)=l:=by
 unfold kv0;rw[Au];exact Je l
def Sv(W B:Addr->Prop)(x C dx:Addr)(u:U):Prop:=∀(H:Hp)(fs:List (Str×V))(o:HO)(v:V),H x=some #v[82]->DU W B H u v->DU W B (upd H x o) u v
def Sv.dt{x C dx:Addr}(n:Nat)(h:u.dt n):Sv W B x C dx u:=λ_ _ _ _ hx d=>DU.data (eU hx) n u h d
structure aSr(W B:Addr->Prop)(H1:Hp)(x C dx:Addr)(H:Hp)(fs:List (Str×V))(us:List U)(vs:List V):Prop where
 fw:Fw W H1 H
 at_:H x=some #v[82]
 du:DUs W B H us vs
def aSr.next{x C dx:Addr}(k:aSr W B H1 x C dx H fs us vs)(eb:EB W B H1)(n1:H1 x=none)(nw:¬W x)(w:Fw W H H')(sv:∀y∈us,Sv W B x C dx y)(d:DU W B H' u v)(su:Sv W B x C dx u):aSr W B H1 x C dx (upd H' x (.ins C dx fs')) fs' (us++[u]) (vs++[v]):=by
 have hx:=w.fr x _ nw k.at_;have key:∀{us:List U}{vs:List V},(∀y∈us,Sv W B x C dx y)->DUs W B H us vs->DUs W B (upd H' x (.ins C dx fs')) us vs:=by
  intro us;induction us with
  |nil=>exactλ_ d=>d
  |cons y us ih=>
   rintro _ sv ⟨z,r,rfl,d,t⟩;exact#[z,r,rfl,sv y Ah _ _ _ _ hx (DU.mono ((eb.to k.fw).keep w) y d),ih (λa ha=>sv a (Af _ ha)) t]
 exact#[(k.fw.trans w).upd n1 nw,aP,(key sv k.du).app (DUs.one (su _ _ _ _ hx d))]
abbrev pO:List Str:=["self","job","pieces","hands","waits","slots","wanted"]
def vZ:aQ ["self","job","pieces","hands","waits","slots","wanted"] ["self","job","pieces","hands","waits","slots","wanted"] (aC eQ):={}
def aKz(F:Fun K "__init__" "Paper.__init__" eQ f fd)(cP:Cfl K CP pNm)(c_are_pieces:⇑6 "are_pieces" ["job","thing"] (spV (aUe N CG CJ)))(c_are_hands:⇑5 "are_hands" ["thing","many"] (spV aOo))(c_are_waits:⇑5 "are_waits" ["thing","many"] (spV aOs))(c_are_slots:⇑6 "are_slots" ["job","thing"] (spV (aQn P w N CG CJ)))(c_are_wanted:⇑6 "are_wanted" ["job","thing"] (spV (aTt N CG CJ)))(T:Txt mg):↥7 f fd ["self","job","pieces","hands","waits","slots","wanted"] (spI CP (aGt P w N CG CJ)):=by
 obtain⟨_,g_MOST_PIECES⟩:=T.c_MOST_PIECES;refine F.ok vZ (λvs H Q E h=>?_) (λcdv A outer s H vs Q E hr h=>?_)
 ·obtain⟨x,dx,vs',H1,W,B,us,R,rfl,_,_,_,_,ds,⟨ns,rs,t,ys,m,r,ls,ps,hs,wt,rfl,_⟩,_⟩:=h;rw[Am, <-ds.length];rfl
 ·obtain⟨x,dx,vs',H1,W,B,us,R,rfl,n1,hx,s1,eb,ds,⟨ns,rs,t,ys,m,r,ls,ps,hs,wt,rfl,g,hR⟩,q⟩:=h;obtain⟨v1,_,rfl,d1,v2,_,rfl,d2,v3,_,rfl,d3,v4,_,rfl,d4,v5,_,rfl,d5,v6,r6,rfl,d6,dr⟩:=ds;obtain rfl:r6=[]:=dr;have et:∀{H'},Fw W H1 H'->EE W B H' [.no,.sh #v[20],.sh (.ls (pcU ps)),.sh (.ls (rwU hs)),.sh (.ls (prU wt)),.sh (.op #v[g].fz),.sh (.ls [])] [some (.ref x),some v1,some v2,some v3,some v4,some v5,some v6]:=λfw=>nZ (fM (DU.mono #v[93] _ d1) (fM (DU.mono #v[93] _ d2) (fM (DU.mono #v[93] _ d3) (fM (DU.mono #v[93] _ d4) (fM (DU.mono #v[93] _ d5) (fM (DU.mono #v[93] _ d6) (aHp (eb.to fw))))))));have nw:¬W x:=λz=>eb.dm x (eb.wb x z) n1;refine#[_,(bB (pW (VC.can (iD (jA (cH (cI (aL c_are_pieces (hr.mono ⋯) rfl (aB (aA 1) (aB (aA 2) aF))))) (fB (bK lF cU #v[52] (dB g_MOST_PIECES)))))) (cW gA) gC) (bB (pW (VC.can (cH (cI (aL c_are_hands (hr.mono ⋯) rfl (aB (aA 3) (aB #v[52] aF)))))) (cW gA) gC) (bB (pW (VC.can (cH (cI (aL c_are_waits (hr.mono ⋯) rfl (aB (aA 4) (aB #v[52] aF)))))) (cW gA) gC) (bB (pW (VC.can (cH (cI (aL c_are_slots (hr.mono ⋯) rfl (aB (aA 1) (aB (aA 5) aF)))))) (cW gA) gC) (bB (pW (VC.can (cH (cI (aL c_are_wanted (hr.mono ⋯) rfl (aB (aA 1) (aB (aA 6) aF)))))) (cW gA) gC) (bB (eZ (pv 0) (pv 1) rfl) (bB (eZ (pv 0) (VE.can (dR (own:=["piece"]) (cap:=[]) (aC eQ) pO rfl rfl (λx h=>aV h) #v[5] rfl (vic (aX (aA 2))) ↑(aW (i:=0) (~~~["piece"]) rfl (Cv rfl) (Dc rfl)) (bC ⋯) ↑#v[69])) rfl) (bB (eZ (pv 0) (VE.can (dR (own:=["hand"]) (cap:=[]) (aC eQ) pO rfl rfl (λx h=>aV h) #v[5] rfl (vic (aX (aA 3))) ↑(aW (i:=0) (~~~["hand"]) rfl (Cv rfl) (Dc rfl)) (bC ⋯) ↑#v[69])) rfl) (bB (eZ (pv 0) (VE.can (dC (eG rfl) lC T.list Ew (aJ (aA 4) aM))) rfl) (bB (eZ (pv 0) (VE.can (aQu (P:=P) (w:=w) rfl rfl rfl T.dict (aA 5))) rfl) (cW (eZ (pv 0) (VE.can (dC (eG rfl) lC T.list Ew (aJ (aA 6) aM))) rfl)))))))))))),?_];have f0:=eb.same s1;have pl:=g.n64;refine pB (R:=λc=>c=false) (et f0) #[ns,rs,t,ys,m,r,ls,ps,rfl,g.gs,g.r0,g.gp,nofun,λ_=>?_] λc H2 hc w2=>?_
  ·exact decide_eq_false (by rw[Ab];lia)
  subst hc;refine rG ?_;have f2:=f0.trans w2;refine pB (R:=λc=>c=false) (et f2) #[hs,ps.length,by rw[Ab],g.sh,pl,g.h1,g.h4,rfl] λc H3 hc w3=>?_;subst hc;refine rG ?_;have f3:=f2.trans w3;refine pB (R:=λc=>c=false) (et f3) #[wt,ps.length,by rw[Ab],g.wk,g.wl,rfl] λc H4 hc w4=>?_;subst hc;refine rG ?_;have f4:=f3.trans w4;refine pB (R:=λc=>c=false) (et f4) #[ns,rs,t,ys,m,r,ls,rfl,g.gs,g.a40,g.r0,g.r12,rfl] λc H5 hc w5=>?_;subst hc;refine rG ?_;have f5:=f4.trans w5;refine pB (R:=λc=>c=false) (et f5) #[ns,rs,t,ys,m,r,ls,[],rfl,g.gs,g.r0,⋯,nofun,Gg,rfl] λc H6 hc w6=>?_;subst hc;refine rG ?_;have f6:=f5.trans w6;have hx6:H6 x=some (.ins CP dx []):=w6.fr _ _ nw (w5.fr _ _ nw (w4.fr _ _ nw (w3.fr _ _ nw (w2.fr _ _ nw hx))));have fl:∀{k:Nat},k<=6->k<1000:=λh=>by lia
  refine#[_,rfl,_,rfl,x,CP,dx,_,rfl,hx6,cP.cl,cP.na _ (by simp),fl (by show(0:Nat)<=6;decide),?_];have k7:aSr W B H1 x CP dx (upd H6 x (.ins CP dx [("job",v1)])) [("job",v1)] [] []:=#[f6.upd n1 nw,aP,rfl];have s2:Sv W B x CP dx (.ls (pcU ps)):=.dt 10 (aYr ps);have s3:Sv W B x CP dx (.ls (rwU hs)):=.dt 10 (bAz hs);have s4:Sv W B x CP dx (.ls (prU wt)):=.dt 10 (aYq wt);have s5:Sv W B x CP dx (.op #v[g].fz):=λ_ _ _ _ h d=>aSq h d;have s6:Sv W B x CP dx (.ls []):=.dt 1 trivial;have o1:∀y∈[U.ls (pcU ps)],Sv W B x CP dx y:=λy hy=>by rw[List.mem_singleton.mp hy];exact s2
  have o2:∀y∈[U.ls (pcU ps),.ls (rwU hs)],Sv W B x CP dx y:=λy hy=>(List.mem_cons.mp hy).elim (λe=>by rw[e];exact s2) λhy=>by rw[List.mem_singleton.mp hy];exact s3
  have o3:∀y∈[U.ls (pcU ps),.ls (rwU hs),.ls (prU wt)],Sv W B x CP dx y:=λy hy=>(List.mem_append.mp (show y∈[U.ls (pcU ps),.ls (rwU hs)]++[.ls (prU wt)]from hy)).elim (o2 y) λhy=>by rw[List.mem_singleton.mp hy];exact s4
  have o4:∀y∈[U.ls (pcU ps),.ls (rwU hs),.ls (prU wt),.op #v[g].fz],Sv W B x CP dx y:=λy hy=>(List.mem_append.mp (show y∈[U.ls (pcU ps),.ls (rwU hs),.ls (prU wt)]++[.op #v[g].fz]from hy)).elim (o3 y) λhy=>by rw[List.mem_singleton.mp hy];exact s5
  refine sI (R:=λs=>s=.ow (pcU ps)) (et k7.fw) #[by rw[Ab];lia,cD (h:=id) (λu hu k hk=>?_) (by rw[Bd,Je])] λs v8 H8 hs8 w8 r8=>?_
  ·obtain⟨l,_,rfl⟩:=List.mem_map.mp hu;exact hk
  subst hs8;obtain⟨p8,x8,rfl,n8,h8,d8⟩:=r8;refine#[_,rfl,x,CP,dx,_,rfl,w8.fr _ _ nw k7.at_,cP.cl,cP.na _ (by simp),fl (by show(1:Nat)<=6;decide),?_];have k8:=k7.next (u:=.ls (pcU ps)) (v:=.ref p8) (fs':=[("job",v1),("pieces",.ref p8)]) eb n1 nw w8 (λ_ h=>nomatch h) (#[p8,x8,rfl,(eb.to k7.fw).nw n8,h8,d8.less]:DU W B H8 (.ls (pcU ps)) (.ref p8)) s2;refine sI (R:=λs=>s=.ow (rwU hs)) (et k8.fw) #[by rw[Ab];have:=g.h4;lia,cD (h:=id) (λu hu k hk=>?_) (by rw[Bd,Je])] λs v9 H9 hs9 w9 r9=>?_
  ·obtain⟨l,_,rfl⟩:=List.mem_map.mp hu;exact hk
  subst hs9;obtain⟨p9,x9,rfl,n9,h9,d9⟩:=r9;refine#[_,rfl,x,CP,dx,_,rfl,w9.fr _ _ nw k8.at_,cP.cl,cP.na _ (by simp),fl (by show(2:Nat)<=6;decide),?_];have k9:=k8.next (u:=.ls (rwU hs)) (v:=.ref p9) (fs':=[("job",v1),("pieces",.ref p8),("hands",.ref p9)]) eb n1 nw w9 o1 (#[p9,x9,rfl,(eb.to k8.fw).nw n9,h9,d9.less]:DU W B H9 (.ls (rwU hs)) (.ref p9)) s3;refine sI (R:=λs=>s=.ow (prU wt)) (et k9.fw) rfl λs v10 H10 hs10 w10 r10=>?_;subst hs10;obtain⟨p10,x10,rfl,n10,h10,d10⟩:=r10;refine#[_,rfl,x,CP,dx,_,rfl,w10.fr _ _ nw k9.at_,cP.cl,cP.na _ (by simp),fl (by show(3:Nat)<=6;decide),?_];have k10:=k9.next (u:=.ls (prU wt)) (v:=.ref p10) (fs':=[("job",v1),("pieces",.ref p8),("hands",.ref p9),("waits",.ref p10)]) eb n1 nw w10 o2 (#[p10,x10,rfl,(eb.to k9.fw).nw n10,h10,d10.less]:DU W B H10 (.ls (prU wt)) (.ref p10)) s4;have sl:=zB g.gs g.r12;refine sI (R:=λs=>s=.oo #v[g]) (et k10.fw) #[_,.inr (.inr rfl),?_,?_,rfl] λs v11 H11 hs11 w11 r11=>?_
  ·rw[aGr];exact aQy g.gs g.r12
  ·unfold kv0;rw[Ab]
   lia
  subst hs11;obtain⟨p11,S11,rfl,n11,h11⟩:=r11;refine#[_,rfl,x,CP,dx,_,rfl,w11.fr _ _ nw k10.at_,cP.cl,cP.na _ (by simp),fl (by show(4:Nat)<=6;decide),?_];have k11:=k10.next (u:=.op #v[g].fz) (v:=.ref p11) (fs':=[("job",v1),("pieces",.ref p8),("hands",.ref p9),("waits",.ref p10),("slots",.ref p11)]) eb n1 nw w11 o3 (#[p11,S11,rfl,λb hb=>(eb.to k10.fw).nw (n11 b hb),(pdO P w _).less h11]:DU W B H11 (.op #v[g].fz) (.ref p11)) s5;refine sI (R:=λs=>s=.ow []) (et k11.fw) rfl λs v12 H12 hs12 w12 r12=>?_;subst hs12;obtain⟨p12,x12,rfl,n12,h12,d12⟩:=r12;refine#[_,rfl,x,CP,dx,_,rfl,w12.fr _ _ nw k11.at_,cP.cl,cP.na _ (by simp),fl (by show(5:Nat)<=6;decide),?_];have k12:=k11.next (u:=.ls []) (v:=.ref p12) (fs':=[("job",v1),("pieces",.ref p8),("hands",.ref p9),("waits",.ref p10),("slots",.ref p11),("wanted",.ref p12)]) eb n1 nw w12 o4 (#[p12,x12,rfl,(eb.to k11.fw).nw n12,h12,d12.less]:DU W B H12 (.ls []) (.ref p12)) s6;exact q _ _ [v1,.ref p8,.ref p9,.ref p10,.ref p11,.ref p12] _ hR k12.fw aP rfl #[_,_,rfl,DU.mono (eb.keep k12.fw) _ d1,k12.du]
end Q
namespace G4
variable {ls:List Nat}{E:#v[26]}{L:Nat->Nat}{ws:#v[d]}{A:List Nat}{n:Nat}{hs:#v[d]}{p:Nat}{t:Nat}{i:Nat}
abbrev Pr:=Nat×Nat
def Below(n:Nat)(ps:List Pr):Prop:=∀p∈ps,p.1<n/\p.2<n
theorem kI:∀(n:Nat)(l:List Nat),l.Nodup->(∀v∈l,v<n)->l.length<=n
 |0,l,_,h=>by
  cases l with
  |nil=>simp
  |cons a l=>exact absurd (h a Ah) (Dz a)
 |n+1,l,hn,h=>by
  by_cases hm:n∈l
  ·have ih:=kI n (l.erase n) (hn.erase n) λv hv=>by
    have h1:=h v (List.mem_of_mem_erase hv);have h2:v≠n:=λe=>by
     subst e;exact(List.Nodup.not_mem_erase hn) hv
    lia
   rw[Pc hm]at ih;have:=Py hm
   lia
  ·have ih:=kI n l hn λv hv=>by
    have h1:=h v hv;have h2:v≠n:=λe=>hm (e▸hv)
    lia
   lia
def fU(ps:List Pr)(D:List Nat)(v:Nat):Nat:=ps.countP λp=>decide (p.1=v/\p.2∉D)
def gU(ps:List Pr)(m:Nat):List Nat:=(ps.filter λp=>decide (p.2=m)).map (·.1)
def pN:fU ps D v=0↔ ∀m,(v,m)∈ps->m∈D:=by
 unfold fU;rw[List.countP_eq_zero];constructor
 ·intro h m hm;have:=h (v,m) hm;simp at this;exact this
 ·intro h p hp hd;have hd':=of_decide_eq_true hd;exact hd'.2 (h p.2 (by rw[<-hd'.1];exact hp))
theorem uP(hm:m∉D)(v:Nat):∀ps:List Pr,fU ps D v=fU ps (D++[m]) v+(gU ps m).count v
 | []=>rfl
 |p::ps=>by
  have ih:=uP hm v ps;unfold fU gU at ih⊢;rw[Ki,Ki,List.filter_cons];by_cases h1:p.1=v
  ·by_cases h2:p.2=m
   ·have e1:decide (p.1=v/\p.2∉D)=true:=decide_eq_true #[h1,h2▸hm];have e2:decide (p.1=v/\p.2∉D++[m])=false:=decide_eq_false (λz=>z.2 (by simp[h2]));rw[e1,e2,if_pos (decide_eq_true h2),Ba,To,ih];simp[h1]
    lia
   ·have e2:decide (p.1=v/\p.2∉D++[m])=decide (p.1=v/\p.2∉D):=by simp[h2]
    have e3:¬decide (p.2=m)=true:=by simpa using h2
    rw[e2,if_neg e3,ih]
    lia
  ·have e1:decide (p.1=v/\p.2∉D)=false:=decide_eq_false (λz=>h1 z.1);have e2:decide (p.1=v/\p.2∉D++[m])=false:=decide_eq_false (λz=>h1 z.1);rw[e1,e2];by_cases h2:p.2=m
   ·rw[if_pos (decide_eq_true h2),Ba,To,ih];simp[h1]
   ·have e3:¬decide (p.2=m)=true:=by simpa using h2
    rw[if_neg e3,ih];simp
def aAk{l:List Nat}{j r:Nat}(h:l[j]? =some r)(v:Nat):(l.take (j+1)).count v=(l.take j).count v+if v=r then 1 else 0:=by
 rw[Lg,h,List.count_append];show _+List.count v [r]=_;rw[List.count_singleton];congr 1;by_cases e:v=r
 ·subst e;simp
 ·have e':¬r=v:=λz=>e z.symm;simp[e,e']
def aBd(l:List Nat)(j v:Nat):(l.take j).count v<=l.count v:=(Mj j l).count_le v
structure Dec(n:Nat)(L0 L:Nat->Nat)(F:List Nat):Prop where
 le:∀v,L v<=L0 v
 nd:F.Nodup
 mem:∀v,v∈F↔v<n/\L v=0/\0<L0 v
def Dec.start:Dec n L0 L0 []:=#[λ_=>Aj _,Gg,λv=>#[λh=>(by cases h),λh=>∅]]
def less(L:Nat->Nat)(r:Nat):Nat->Nat:=λv=>if v=r then L r-1 else L v
def Dec.step0{L0 L:Nat->Nat}(d:Dec n L0 L F)(hr:r<n)(h1:L r=1):Dec n L0 (less L r) (F++[r]):=by
 refine#[λv=>?_,?_,λv=>?_]
 ·unfold less;split
  ·rename_i e;subst e;have:=d.le v;lia
  ·exact d.le v
 ·rw[Jv];refine#[d.nd,by simp,λa ha b hb=>?_];rw[Du]at hb;subst hb;rintro rfl;have:=((d.mem a).mp ha).2.1
  lia
 ·rw[Nr,Du,d.mem];unfold less;by_cases e:v=r
  ·subst e;have:=d.le v;simp[h1]
   lia
  ·simp[e]
def Dec.step1{L0 L:Nat->Nat}(d:Dec n L0 L F)(h1:2<=L r):Dec n L0 (less L r) F:=by
 refine#[λv=>?_,d.nd,λv=>?_]
 ·unfold less;split
  ·rename_i e;subst e;have:=d.le v;lia
  ·exact d.le v
 ·rw[d.mem];unfold less;by_cases e:v=r
  ·subst e;simp
   lia
  ·simp[e]
def aKj{ps:List Pr}{D:List Nat}{m j r:Nat}(hm:m∉D)(hL:∀v,L v+((gU ps m).take j).count v=fU ps D v)(hj:(gU ps m)[j]? =some r):
  0<L r/\∀v,less L r v+((gU ps m).take (j+1)).count v=fU ps D v:=by
 have h0:0<L r:=by
  have h1:=hL r;have h2:=uP hm r ps;have h3:=aAk hj r;have h4:=aBd (gU ps m) (j+1) r;rw[if_pos rfl]at h3
  lia
 refine#[h0,λv=>?_];have h1:=hL v;have h3:=aAk hj v;unfold less;by_cases e:v=r
 ·subst e;rw[if_pos rfl]at h3⊢
  lia
 ·rw[if_neg e]at h3⊢
  lia
structure aCz(ps:List Pr)(n:Nat)(ws:#v[d]):Prop where
 below:∀v∈ws.flatten,v<n
 nodup:ws.flatten.Nodup
 full:∀w∈ws,w≠[]
 rise:∀w∈ws,w.Pairwise (·<·)
 lean:∀(i:Nat) w,ws[i]? =some w->∀v∈w,∀m,(v,m)∈ps->m∈(ws.take i).flatten
 last:∀(i:Nat) w w',ws[i]? =some w->ws[i+1]? =some w'->∀v∈w',∃m∈w,(v,m)∈ps
def Stuck(ps:List Pr)(n:Nat)(ws:#v[d]):Prop:=∀v,v<n->v∉ws.flatten->∃m,(v,m)∈ps/\m∉ws.flatten
structure yJ(ps:List Pr)(n:Nat)(ws:#v[d])(w:List Nat):Prop where
 ok:aCz ps n ws
 wave:∀v,v∈w↔v<n/\v∉ws.flatten/\fU ps ws.flatten v=0
 wrise:w.Pairwise (·<·)
 wlast:∀(i:Nat) u,ws[i]? =some u->i+1=ws.length->∀v∈w,∃m∈u,(v,m)∈ps
def yJ.start(h:w=(Bh n).filter λv=>decide (fU ps [] v=0)):yJ ps n [] w:=by
 subst h;refine#[#[by simp,by simp,by simp,by simp,by simp,by simp],λv=>?_,?_,by simp]
 ·simp[List.mem_filter]
 ·exact Vp _ Px
def yJ.done(k:yJ ps n ws []):Stuck ps n ws:=by
 intro v hv hn;by_cases h:fU ps ws.flatten v=0
 ·have:=(k.wave v).mpr #[hv,hn,h];cases this
 ·refine Cy λhc=>h (pN.mpr λm hm=>?_);exact Cy λhmd=>hc #[m,hm,hmd]
def yJ.nd(k:yJ ps n ws w):(ws++[w]).flatten.Nodup/\(∀v∈(ws++[w]).flatten,v<n)/\w.Nodup:=by
 have hw:w.Nodup:=k.wrise.imp λh=>Aw h;have e:(ws++[w]).flatten=ws.flatten++w:=by simp
 rw[e];refine#[List.nodup_append.mpr #[k.ok.nodup,hw,λa ha b hb=>?_],λv hv=>?_,hw]
 ·rintro rfl;exact((k.wave a).mp hb).2.1 ha
 ·rcases List.mem_append.mp hv with h|h
  ·exact k.ok.below v h
  ·exact((k.wave v).mp h).1
def yJ.step(hb:Below n ps)(k:yJ ps n ws w)(hw:w≠[])(d:Dec n (fU ps ws.flatten) (fU ps (ws++[w]).flatten) F)
  (hp:ms.Perm F) (ho:ms.Pairwise (·<=·)):yJ ps n (ws++[w]) ms:=by
 have e:(ws++[w]).flatten=ws.flatten++w:=by simp
 have hnd:ms.Nodup:=hp.nodup_iff.mpr d.nd;have hz:∀v∈ws.flatten++w,fU ps ws.flatten v=0:=λv hv=>by
  rcases List.mem_append.mp hv with h|h
  ·rw[pN];intro m hm;obtain⟨u,hu,hvu⟩:=List.mem_flatten.mp h;obtain⟨i,hi,rfl⟩:=Gc hu;have:=k.ok.lean i ws[i] (by simp[hi]) v hvu m hm;obtain⟨t,ht,hmt⟩:=List.mem_flatten.mp this;exact List.mem_flatten.mpr #[t,Hh ht,hmt]
  ·exact((k.wave v).mp h).2.2
 refine#[#[k.nd.2.1,k.nd.1,λu hu=>?_,λu hu=>?_,λi u hu v hv m hm=>?_,λi u u' hu hu' v hv=>?_],λv=>?_,?_,λi u hu hi v hv=>?_]
 ·rcases List.mem_append.mp hu with h|h
  ·exact k.ok.full u h
  ·rw[Du]at h;subst h;exact hw
 ·rcases List.mem_append.mp hu with h|h
  ·exact k.ok.rise u h
  ·rw[Du]at h;subst h;exact k.wrise
 ·by_cases hi:i<ws.length
  ·rw[Di hi]at hu;have:=k.ok.lean i u hu v hv m hm;rw[Mu ∅];exact this
  ·have hil:i=ws.length:=by
    have:=(List.getElem?_eq_some_iff.mp hu).1;simp at this
    lia
   subst hil;rw[Dq (Aj _)]at hu;simp at hu;subst hu;rw[Mu (Aj _),Kg];exact pN.mp ((k.wave v).mp hv).2.2 m hm
 ·by_cases hi:i+1<ws.length
  ·rw[Di hi]at hu';rw[Di ∅]at hu;exact k.ok.last i u u' hu hu' v hv
  ·have hil:i+1=ws.length:=by
    have:=(List.getElem?_eq_some_iff.mp hu').1;simp at this
    lia
   rw[hil,Dq (Aj _)]at hu';simp at hu';subst hu';rw[Di ∅]at hu;exact k.wlast i u hu hil v hv
 ·rw[hp.mem_iff,d.mem];constructor
  ·rintro⟨h1,h2,h3⟩;refine#[h1,λhv=>?_,h2];rw[e]at hv;have:=hz v hv
   lia
  ·rintro⟨h1,h2,h3⟩;refine#[h1,h3,Nat.pos_of_ne_zero λh0=>h2 ?_];rw[e]at h2⊢;exact Ax _ ((k.wave v).mpr #[h1,λz=>h2 (Bf _ z),h0])
 ·have:=List.pairwise_and_iff.mpr #[ho,hnd];exact this.imp λh=>Nat.lt_of_le_of_ne h.1 h.2
 ·have hil:i=ws.length:=by simp at hi;lia
  subst hil;rw[Dq (Aj _)]at hu;simp at hu;subst hu;have h1:=(d.mem v).mp (hp.mem_iff.mp hv);have h2:∀m,(v,m)∈ps->m∈ws.flatten++w:=by rw[<-e];exact pN.mp h1.2.1
  refine Cy λhc=>?_;have:fU ps ws.flatten v=0:=pN.mpr λm hm=>by
   rcases List.mem_append.mp (h2 m hm)with z|z
   ·exact z
   ·exact absurd #[m,z,hm] hc
  lia
theorem aCc:∀(l m:List Nat),l.Nodup->(∀v∈l,v∈m)->l.length<=m.length
 | [],m,_,_=>Bg _
 |a::l,m,hn,h=>by
  obtain⟨h1,h2⟩:=List.nodup_cons.mp hn;have ha:=h a Ah;have ih:=aCc l (m.erase a) h2 λv hv=>by
   have hv':=h v (Af _ hv);have hne:v≠a:=λe=>h1 (e▸hv);exact(List.mem_erase_of_ne hne).mpr hv'
  rw[Pc ha]at ih;have:=Py ha;rw[Am]
  lia
def cover{W:List Nat}(hn:W.Nodup)(hb:∀v∈W,v<n)(hl:n<=W.length):∀v,v<n->v∈W:=by
 intro v hv;refine Cy λhc=>?_;have:=kI n (v::W) (List.nodup_cons.mpr #[hc,hn]) λu hu=>by
  rcases List.mem_cons.mp hu with e|e
  ·rw[e];exact hv
  ·exact hb u e
 rw[Am]at this
 lia
section
abbrev Pq:=Nat×Nat
def Rdy(G:List Pq)(E:#v[26])(t p:Nat):Prop:=∀q,(p,q)∈G->∃e,E q=some e/\e<=t
def IsB(G:List Pq)(E:#v[26])(p b:Nat):Prop:=Rdy G E b p/\(b=0∨∃q,(p,q)∈G/\E q=some b)
structure aL2(n:Nat)(G:List Pq)(L:Nat->Nat)(E:#v[26])(t:Nat):Prop where
 dom:∀p e,E p=some e->p<n
 sys:∀p e,E p=some e->∃b,e=b+L p/\IsB G E p b
 late:∀p,p<n->E p=none->0<t->∃q,(p,q)∈G/\∀e,E q=some e->t<=e
 zero:t=0->∀p,E p=none
def begun(L:Nat->Nat)(E:#v[26])(t:Nat)(A:List Nat):Nat->Option Nat:=λp=>match E p with|some e=>some e|none=>if p∈A then some (t+L p)else none
def gD{p e:Nat}(h:E p=some e):begun L E t A p=some e:=by simp[begun,h]
def jZ(h:E p=none)(m:p∈A):begun L E t A p=some (t+L p):=by simp[begun,h,m]
def pK(h:E p=none)(m:p∉A):begun L E t A p=none:=by simp[begun,h,m]
def lG{p e:Nat}(h:begun L E t A p=some e):E p=some e∨(E p=none/\p∈A/\e=t+L p):=by
 cases g:E p with
 |some x=>rw[gD g]at h;exact .inl h
 |none=>
  by_cases m:p∈A
  ·rw[jZ g m]at h;exact .inr #[rfl,m,by cases h;rfl]
  ·rw[pK g m]at h;cases h
def aEg(hL:∀p,0<L p)(h:begun L E t A q=some e)(l:e<=t):E q=some e:=by
 rcases lG h with h|⟨_,_,rfl⟩
 ·exact h
 ·have:=hL q;lia
def aLh(hL:∀p,0<L p):Rdy G (begun L E t A) t p↔Rdy G E t p:=
 #[λh q m=>let⟨e,h1,h2⟩:=h q m;#[e,aEg hL h1 h2,h2],λh q m=>let⟨e,h1,h2⟩:=h q m;#[e,gD h1,h2]]
def aHd:aL2 n G L (λ_=>none) 0:=#[(λ_ _ h=>nomatch h),(λ_ _ h=>nomatch h),(λ_ _ _ h=>absurd h (Dp _)),(λ_ _=>rfl)]
section
variable {n:Nat}{G:List Pq}{L:Nat->Nat}{E:#v[26]}{t:Nat}{A:List Nat}
def aLl(hL:∀p,0<L p)(C:aL2 n G L E t)(hp:p<n)(h:E p=none)(r:Rdy G E t p):IsB G E p t:=by
 refine#[r,?_];by_cases ht:0<t
 ·obtain⟨q,m,hq⟩:=C.late p hp h ht;obtain⟨e,h1,h2⟩:=r q m;have:=hq e h1;exact .inr #[q,m,by rw[h1];congr 1;lia]
 ·exact .inl ∅
def aCa(hL:∀p,0<L p)(C:aL2 n G L E t)(hA:∀p∈A,p<n/\Rdy G E t p):∀p e,begun L E t A p=some e->∃b,e=b+L p/\IsB G (begun L E t A) p b:=by
 intro p e h;have up:∀{b},IsB G E p b->IsB G (begun L E t A) p b:=λ⟨r,x⟩=>#[λq m=>let⟨e,h1,h2⟩:=r q m;#[e,gD h1,h2],x.imp id λ⟨q,m,z⟩=>#[q,m,gD z]];rcases lG h with h'|⟨h',m,e0⟩
 ·obtain⟨b,e1,e2⟩:=C.sys p e h';exact#[b,e1,up e2]
 ·exact#[t,e0,up (aLl hL C (hA p m).1 h' (hA p m).2)]
def aLa(hL:∀p,0<L p)(C:aL2 n G L E t)(hA:∀p∈A,p<n/\Rdy G E t p)(all:∀p,p<n->E p=none->Rdy G E t p->p∈A)(l:t<t2)(nx:∀p e,begun L E t A p=some e->t<e->t2<=e):aL2 n G L (begun L E t A) t2:=by
 refine#[λp e h=>?_,aCa hL C hA,λp hp h _=>?_,λz=>by lia]
 ·rcases lG h with h|⟨_,m,_⟩
  ·exact C.dom p e h
  ·exact(hA p m).1
 ·have h0:E p=none:=by
   cases g:E p with
   |none=>rfl
   |some e=>rw[gD g]at h;cases h
  have nm:p∉A:=λm=>by rw[jZ h0 m]at h;cases h
  have nr:¬Rdy G E t p:=λr=>nm (all p hp h0 r);apply Cy;intro no;refine nr λq m=>?_;apply Cy;intro nq;refine no #[q,m,λe he=>?_];by_cases le:e<=t
  ·exact absurd #[e,aEg hL he le,le] nq
  ·exact nx q e he ∅
end
def aFg{G:List Pq}(hL:∀p,0<L p)(sE:∀p e,E p=some e->∃b,e=b+L p/\IsB G E p b)(S:Nat->Prop)(hS:∀p,S p->∃q,(p,q)∈G/\S q):∀e p,E p=some e->¬S p:=by
 intro e;induction e using Ky with
 |ind e ih=>
  intro p h sp;obtain⟨b,e1,r1,_⟩:=sE p e h;obtain⟨q,m,sq⟩:=hS p sp;obtain⟨x,h1,h2⟩:=r1 q m;exact ih x (by have:=hL p;lia) q h1 sq
end
def Tf(ts:List Pr):Nat->Option Nat:=λq=>some ((ts.getD q (0,0)).2)
def Lf(ls:List Nat):Nat->Nat:=λp=>ls.getD p 0
structure Tm(ps:List Pr)(ls:List Nat)(done:List Nat)(ts:List Pr):Prop where
 len:ts.length=ls.length
 low:∀p∈done,p<ls.length
 pre:∀p∈done,∀q,(p,q)∈ps->q∈done
 sys:∀p∈done,#v[98].2=#v[98].1+Lf ls p/\IsB ps (Tf ts) p #v[98].1
def Tm.start(h:ts.length=ls.length):Tm ps ls [] ts:=#[h,(λ_ h=>nomatch h),(λ_ h=>nomatch h),(λ_ h=>nomatch h)]
def aFv{α:Type}{l:List α}{i j:Nat}{a d:α}(h:i≠j):(l.set i a).getD j d=l.getD j d:=by simp[Jx,Dr h]
def aGc{α:Type}{l:List α}{a d:α}(h:i<l.length):(l.set i a).getD i d=a:=by simp[Jx,h]
def Tm.step{ps:List Pr}{done:List Nat}{ts:List Pr}{p b:Nat}(t:Tm ps ls done ts)(hp:p<ls.length)(nd:p∉done)(pre:∀q,(p,q)∈ps->q∈done)(hb:IsB ps (Tf ts) p b):Tm ps ls (done++[p]) (ts.set p (b,b+Lf ls p)):=by
 have same:∀q,q∈done->(ts.set p (b,b+Lf ls p)).getD q (0,0)=ts.getD q (0,0):=λq hq=>aFv λz=>nd (z▸hq);have up:∀{r c},(∀q,(r,q)∈ps->q∈done)->IsB ps (Tf ts) r c->IsB ps (Tf (ts.set p (b,b+Lf ls p))) r c:=λ{r c} pr ⟨h1,h2⟩=>by
  refine#[λq m=>?_,h2.imp id λ⟨q,m,z⟩=>#[q,m,?_]]
  ·obtain⟨e,e1,e2⟩:=h1 q m;refine#[e,?_,e2];unfold Tf at e1⊢;rw[same q (pr q m)];exact e1
  ·unfold Tf at z⊢;rw[same q (pr q m)];exact z
 refine#[by rw[Bs];exact t.len,λr hr=>?_,λr hr q m=>?_,λr hr=>?_]
 ·rcases List.mem_append.mp hr with z|z
  ·exact t.low r z
  ·rw[List.mem_singleton.mp z];exact hp
 ·rcases List.mem_append.mp hr with z|z
  ·exact Bf _ (t.pre r z q m)
  ·rw[List.mem_singleton.mp z]at m;exact Bf _ (pre q m)
 ·rcases List.mem_append.mp hr with z|z
  ·obtain⟨e1,e2⟩:=t.sys r z;rw[same r z];exact#[e1,up (t.pre r z) e2]
  ·rw[List.mem_singleton.mp z,aGc (by rw[t.len];exact hp)];exact#[rfl,up pre hb]
structure Sys(ps:List Pr)(ls:List Nat)(ts:List Pr):Prop where
 len:ts.length=ls.length
 sys:∀p,p<ls.length->#v[98].2=#v[98].1+Lf ls p/\IsB ps (Tf ts) p #v[98].1
def aOe{i j v:Nat}{wv:List Nat}(h:ws.flatten.Nodup)(hw:ws[i]? =some wv)(hj:wv[j]? =some v):v∉(ws.take i).flatten++wv.take j:=by
 have hi:i<ws.length:=(List.getElem?_eq_some_iff.mp hw).1;have hjl:j<wv.length:=(List.getElem?_eq_some_iff.mp hj).1;have e1:ws=ws.take i++wv::ws.drop (i+1):=by
  have:wv=ws[i]:=by rw[Ag hi]at hw;exact(Bi hw).symm
  rw[this,Pz,Ep]
 have e2:wv=wv.take j++v::wv.drop (j+1):=by
  have:v=wv[j]:=by rw[Ag hjl]at hj;exact(Bi hj).symm
  rw[this,Pz,Ep]
 rw[e1,Lh,Dd]at h;obtain⟨_,hW,dis⟩:=List.nodup_append.mp h;intro m;rcases List.mem_append.mp m with m|m
 ·exact dis v m v (Bf _ (Ai hj)) rfl
 ·have hn:=(List.nodup_append.mp hW).1;rw[e2]at hn;exact(List.nodup_append.mp hn).2.2 v m v Ah rfl
def bU(rs:#v[d]):List Pr:=rs.flatMap λr=>(r.drop 1).zip r
def aE5(m:Nat)(ts:List Pr):Prop:=(m=0∨∃t∈ts,t.2=m)/\∀t∈ts,t.2<=m
theorem sZ:∀rs:List (List Nat),(bU rs).length<=rs.flatten.length
 | []=>Aj _
 |r::rs=>by
  unfold bU;rw[Ha,Al,Dd,Al];have:=sZ rs;unfold bU at this;have:((r.drop 1).zip r).length<=r.length:=by rw[Tj,Ej];lia
  lia
open L2 G4
def gK{p q:Nat}:(p,q)∈bU rs↔ ∃(i j:Nat)(row:List Nat),rs[i]? =some row/\row[j+1]? =some p/\row[j]? =some q:=by
 unfold bU;rw[List.mem_flatMap];constructor
 ·rintro⟨row,hr,hm⟩;obtain⟨i,hi⟩:=List.mem_iff_getElem?.mp hr;obtain⟨j,hj⟩:=List.mem_iff_getElem?.mp hm;obtain⟨h1,h2⟩:=List.getElem?_zip_eq_some.mp hj;rw[Ro]at h1;exact#[i,j,row,hi,by rw[Qq];exact h1,h2]
 ·rintro⟨i,j,row,hi,h1,h2⟩;refine#[row,Ai hi,List.mem_iff_getElem?.mpr #[j,List.getElem?_zip_eq_some.mpr #[?_,h2]]];rw[Ro,Qq];exact h1
theorem kJ:∀{rs:#v[d]},rs.flatten.Nodup->∀{i i' j j' p:Nat}{row row':List Nat},rs[i]? =some row->rs[i']? =some row'->row[j]? =some p->row'[j']? =some p->i=i'/\j=j'
 | [],_,i,_,_,_,_,_,_,h,_,_,_=>by simp at h
 |r::rs,hn,i,i',j,j',p,row,row',h1,h2,h3,h4=>by
  rw[Dd]at hn;obtain⟨n1,n2,dis⟩:=List.nodup_append.mp hn;cases i with
  |zero=>
   have e:r=row:=by simpa using h1
   subst e;cases i' with
   |zero=>
    have e:r=row':=by simpa using h2
    subst e;obtain⟨a1,b1⟩:=List.getElem?_eq_some_iff.mp h3;obtain⟨a2,b2⟩:=List.getElem?_eq_some_iff.mp h4;exact#[rfl,(Io n1).mp (b1.trans b2.symm)]
   |succ i'=>
    exact absurd rfl (dis p (Ai h3) p (List.mem_flatten.mpr #[row',Ai (show rs[i']? =some row' by simpa using h2),Ai h4]))
  |succ i=>
   cases i' with
   |zero=>
    have e:r=row':=by simpa using h2
    subst e;exact absurd rfl (dis p (Ai h4) p (List.mem_flatten.mpr #[row,Ai (show rs[i]? =some row by simpa using h1),Ai h3]))
   |succ i'=>
    obtain⟨e1,e2⟩:=kJ n2 (i:=i) (i':=i') (by simpa using h1) (by simpa using h2) h3 h4;exact#[by rw[e1],e2]
structure Cur(rs:#v[d])(ats:List Nat)(E:#v[26]):Prop where
 len:ats.length=rs.length
 le:∀(h:Nat) row k,rs[h]? =some row->ats[h]? =some k->k<=row.length
 beg:∀(h:Nat) row k,rs[h]? =some row->ats[h]? =some k->∀(j:Nat) p,row[j]? =some p->(E p≠none↔j<k)
structure HSt(n:Nat)(G:List Pr)(L:Nat->Nat)(E:#v[26])(t:Nat)(rs:#v[d])(h:Nat)(A ats:List Nat):Prop where
 cur:Cur rs ats (begun L E t A)
 inA:∀p∈A,p<n/\E p=none/\Rdy G E t p/\∃(i:Nat)(row:List Nat),i<h/\rs[i]? =some row/\p∈row
 all:∀(i:Nat)(row:List Nat)(p:Nat),i<h->rs[i]? =some row->p∈row->E p=none->Rdy G E t p->p∈A
variable {n:Nat}{ps:List Pr}{L:Nat->Nat}{E:#v[26]}{t h k pc:Nat}{rs:#v[d]}{A ats row:List Nat}
def aB9:begun L E t []=E:=by
 funext p;unfold begun;cases E p<;>simp
def HSt.start(c:Cur rs ats E):HSt n G L E t rs 0 [] ats:=#[by rw[aB9];exact c,(λ_ h=>nomatch h),λi _ _ h=>absurd h (Dz i)]
def HSt.next(hs:HSt n G L E t rs h A ats)(nd:rs.flatten.Nodup)(h1:rs[h]? =some row)(h2:ats[h]? =some k){j p:Nat}(hj:k<=j)(h3:row[j]? =some p):begun L E t A p=none/\E p=none/\p∉A:=by
 have b:begun L E t A p=none:=by
  cases g:begun L E t A p with
  |none=>rfl
  |some e=>exact absurd ((hs.cur.beg h row k h1 h2 j p h3).mp (by rw[g];exactλz=>nomatch z)) ∅
 have e0:E p=none:=by
  cases g:E p with
  |none=>rfl
  |some e=>rw[gD g]at b;cases b
 exact#[b,e0,λm=>by rw[jZ e0 m]at b;cases b]
def HSt.ready(hL:∀p,0<L p)(hs:HSt n (ps++bU rs) L E t rs h A ats)(nd:rs.flatten.Nodup)(h1:rs[h]? =some row)(h2:ats[h]? =some k)(h3:row[k]? =some pc):
  Rdy (ps++bU rs) E t pc↔Rdy ps (begun L E t A) t pc/\(k=0∨∃q e,row[k-1]? =some q/\begun L E t A q=some e/\e<=t):=by
 rw[<-aLh (A:=A) hL];constructor
 ·intro r;refine#[λq m=>r q (Bf _ m),?_];by_cases hk:k=0
  ·exact .inl hk
  ·right
   have hkl:k-1<row.length:=by have:=(List.getElem?_eq_some_iff.mp h3).1;lia
   have hq:row[k-1]? =some row[k-1]:=Ag hkl;obtain⟨e,e1,e2⟩:=r row[k-1] (Ax _ (gK.mpr #[h,k-1,row,h1,by rw[show k-1+1=k by lia];exact h3,hq]));exact#[_,e,hq,e1,e2]
 ·rintro⟨r,o⟩ q m;rcases List.mem_append.mp m with m|m
  ·exact r q m
  ·obtain⟨i,j,row',g1,g2,g3⟩:=gK.mp m;obtain⟨e1,e2⟩:=kJ nd g1 h1 g2 h3;subst e1;rw[h1]at g1;cases g1;rcases o with z|⟨q',e,z1,z2,z3⟩
   ·lia
   ·rw[show k-1=j by lia,g3]at z1;cases z1;exact#[e,z2,z3]
def HSt.go(hs:HSt n G L E t rs h A ats)(nd:rs.flatten.Nodup)(low:∀p∈rs.flatten,p<n)(hG:∀p q,(p,q)∈bU rs->(p,q)∈G)(h1:rs[h]? =some row)(h2:ats[h]? =some k)(h3:row[k]? =some pc)(r:Rdy G E t pc):HSt n G L E t rs (h+1) (A++[pc]) (ats.set h (k+1)):=by
 obtain⟨b0,e0,na⟩:=hs.next nd h1 h2 (Aj k) h3;have hh:h<ats.length:=(List.getElem?_eq_some_iff.mp h2).1;have hb:∀p,begun L E t (A++[pc]) p≠none↔begun L E t A p≠none∨p=pc:=λp=>by
  cases g:E p with
  |some e=>rw[gD g,gD g];simp
  |none=>
   by_cases m:p∈A
   ·rw[jZ g m,jZ g (Bf _ m)];simp
   ·by_cases z:p=pc
    ·rw[jZ g (by rw[z];simp)];simp[z]
    ·rw[pK g m,pK g (by simp[m,z])];simp[z]
 refine#[#[by rw[Bs];exact hs.cur.len,λi row' k' g1 g2=>?_,λi row' k' g1 g2 j p g3=>?_],λp hp=>?_,λi row' p hi g1 g2 g3 g4=>?_]
 ·by_cases z:h=i
  ·subst z;rw[Gi hh]at g2;rw[h1]at g1;cases g1;cases g2;exact(List.getElem?_eq_some_iff.mp h3).1
  ·rw[Dr z]at g2;exact hs.cur.le i row' k' g1 g2
 ·rw[hb];by_cases z:h=i
  ·subst z;rw[Gi hh]at g2;rw[h1]at g1;cases g1;cases g2;rw[hs.cur.beg h row k h1 h2 j p g3];constructor
   ·rintro(l|l)
    ·lia
    ·subst l;have:=(kJ nd h1 h1 g3 h3).2
     lia
   ·intro l;by_cases y:j=k
    ·subst y;rw[h3]at g3;cases g3;exact .inr rfl
    ·exact .inl ∅
  ·rw[Dr z]at g2;rw[hs.cur.beg i row' k' g1 g2 j p g3];constructor
   ·rintro(l|l)
    ·exact l
    ·subst l;exact absurd (kJ nd h1 g1 h3 g3).1 z
   ·exact .inl
 ·rcases List.mem_append.mp hp with m|m
  ·obtain⟨x1,x2,x3,i,row',x4,x5⟩:=hs.inA p m;exact#[x1,x2,x3,i,row',∅,x5]
  ·rw[List.mem_singleton.mp m];exact#[low pc (List.mem_flatten.mpr #[row,Ai h1,Ai h3]),e0,r,h,row,∅,h1,Ai h3]
 ·by_cases z:i<h
  ·exact Bf _ (hs.all i row' p z g1 g2 g3 g4)
  ·have:i=h:=by lia
   subst this;rw[h1]at g1;cases g1;obtain⟨j,hj⟩:=List.mem_iff_getElem?.mp g2;rcases He j k with l|l|l
   ·have:=(hs.cur.beg i row k h1 h2 j p hj).mpr l;by_cases m:p∈A
    ·exact Bf _ m
    ·rw[pK g3 m]at this;exact absurd rfl this
   ·subst l;rw[h3]at hj;cases hj;simp
   ·have hjl:j-1<row.length:=by have:=(List.getElem?_eq_some_iff.mp hj).1;lia
    have hq:row[j-1]? =some row[j-1]:=Ag hjl;obtain⟨e,e1,_⟩:=g4 _ (hG _ _ (gK.mpr #[i,j-1,row,h1,by rw[show j-1+1=j by lia];exact hj,hq]));have:=(hs.next nd h1 h2 (show k<=j-1 by lia) hq).2.1;rw[this]at e1;cases e1
def HSt.skip(hs:HSt n G L E t rs h A ats)(nd:rs.flatten.Nodup)(hG:∀p q,(p,q)∈bU rs->(p,q)∈G)(h1:rs[h]? =some row)(h2:ats[h]? =some k)(no:∀p,row[k]? =some p->¬Rdy G E t p):HSt n G L E t rs (h+1) A ats:=by
 refine#[hs.cur,λp hp=>?_,λi row' p hi g1 g2 g3 g4=>?_]
 ·obtain⟨x1,x2,x3,i,row',x4,x5⟩:=hs.inA p hp;exact#[x1,x2,x3,i,row',∅,x5]
 ·by_cases z:i<h
  ·exact hs.all i row' p z g1 g2 g3 g4
  ·have:i=h:=by lia
   subst this;rw[h1]at g1;cases g1;obtain⟨j,hj⟩:=List.mem_iff_getElem?.mp g2;rcases He j k with l|l|l
   ·have:=(hs.cur.beg i row k h1 h2 j p hj).mpr l;by_cases m:p∈A
    ·exact m
    ·rw[pK g3 m]at this;exact absurd rfl this
   ·subst l;exact absurd g4 (no p hj)
   ·have hjl:j-1<row.length:=by have:=(List.getElem?_eq_some_iff.mp hj).1;lia
    have hq:row[j-1]? =some row[j-1]:=Ag hjl;obtain⟨e,e1,_⟩:=g4 _ (hG _ _ (gK.mpr #[i,j-1,row,h1,by rw[show j-1+1=j by lia];exact hj,hq]));have:=(hs.next nd h1 h2 (show k<=j-1 by lia) hq).2.1;rw[this]at e1;cases e1
def HSt.end(hs:HSt n G L E t rs rs.length A ats)(cov:∀p,p<n->p∈rs.flatten):(∀p∈A,p<n/\Rdy G E t p)/\∀p,p<n->E p=none->Rdy G E t p->p∈A:=by
 refine#[λp hp=>let⟨x1,_,x3,_⟩:=hs.inA p hp;#[x1,x3],λp hp e r=>?_];obtain⟨row,hr,hm⟩:=List.mem_flatten.mp (cov p hp);obtain⟨i,hi⟩:=List.mem_iff_getElem?.mp hr;exact hs.all i row p (List.getElem?_eq_some_iff.mp hi).1 hi hm e r
def aDj(E:#v[26])(t p:Nat):Bool:=match E p with|some e=>decide (t<e)|none=>true
def left(n:Nat)(E:#v[26])(t:Nat):Nat:=(Bh n).countP (aDj E t)
theorem xQ:∀{l:List Nat},(∀x∈l,Q x=true->P x=true)->(∃x∈l,P x=true/\Q x=false)->l.countP Q<l.countP P
 | [],_,h=>by obtain⟨x,hx,_⟩:=h;cases hx
 |a::l,i,h=>by
  have il:∀x∈l,Q x=true->P x=true:=λx hx=>i x (Af _ hx);have le:l.countP Q<=l.countP P:=List.countP_mono_left il;rw[Ki,Ki];obtain⟨x,hx,h1,h2⟩:=h;rcases List.mem_cons.mp hx with e|hx
  ·subst e;rw[h1,h2];simp
   lia
  ·have lt:=xQ il #[x,hx,h1,h2];have ia:=i a Ah;cases hq:Q a with
   |false=>simp;lia
   |true=>rw[ia hq];simp;lia
def aLw{n:Nat}{L:Nat->Nat}{E:#v[26]}{t t2:Nat}{A:List Nat}(l:t<t2)(hp:p<n)(h:begun L E t A p=some t2):left n (begun L E t A) t2<left n E t:=by
 refine xQ (λx _ hx=>?_) #[p,List.mem_range.mpr hp,?_,?_]
 ·unfold aDj at hx⊢;cases g:E x with
  |none=>rfl
  |some e=>
   rw[gD g]at hx;have:=of_decide_eq_true hx;exact decide_eq_true ∅
 ·unfold aDj;rcases lG h with g|⟨g,_,_⟩
  ·rw[g];exact decide_eq_true l
  ·rw[g]
 ·unfold aDj;rw[h];exact decide_eq_false (Dp _)
section
variable {ts:List Pr}{G:List Pr}
abbrev Te(ts:List Pr)(p:Nat):Nat:=#v[98].2
def aMx(h:∀x∈ls,0<x)(hp:p<ls.length):0<Lf ls p:=by
 unfold Lf;rw[Bo,Ag hp];exact h _ (Im hp)
def Sys.mono{G G':List Pr}{ts ts':List Pr}(hL:∀x∈ls,0<x)(hb:Below ls.length G)(sub:∀p∈G,p∈G')(s:Sys G ls ts)(s':Sys G' ls ts'):∀m p,p<ls.length->Te ts' p=m->Te ts p<=m:=by
 intro m;induction m using Ky with
 |ind m ih=>
  intro p hp e;obtain⟨e1,r1,b1⟩:=s.sys p hp;obtain⟨e2,r2,b2⟩:=s'.sys p hp;have L0:=aMx hL hp;unfold Te at*;rcases b1 with z|⟨q,hq,z⟩
  ·lia
  ·have z:=Bi z;obtain⟨x,h1,h2⟩:=r2 q (sub _ hq);have h1:=Bi h1;have:=ih x ∅ q (hb _ hq).2 h1
   lia
def Sys.le{G G':List Pr}{ts ts':List Pr}(hL:∀x∈ls,0<x)(hb:Below ls.length G)(sub:∀p∈G,p∈G')(s:Sys G ls ts)(s':Sys G' ls ts')(hp:p<ls.length):Te ts p<=Te ts' p:=Sys.mono hL hb sub s s' _ p hp rfl
def Sys.same{G G':List Pr}{ts ts':List Pr}(hL:∀x∈ls,0<x)(hb:Below ls.length G)(sub:∀p,p∈G↔p∈G')(s:Sys G ls ts)(s':Sys G' ls ts'):ts=ts':=by
 refine So (by rw[s.len,s'.len]) λi h1 h2=>?_;have hi:i<ls.length:=by rw[<-s.len];exact h1
 have l1:=Sys.le hL hb (λp hp=>(sub p).mp hp) s s' hi;have l2:=Sys.le hL (λp hp=>hb p ((sub p).mpr hp)) (λp hp=>(sub p).mpr hp) s' s hi;have e1:=(s.sys i hi).1;have e2:=(s'.sys i hi).1;have g1:ts.getD i (0,0)=ts[i]:=by rw[Bo,Ag h1];rfl
 have g2:ts'.getD i (0,0)=ts'[i]:=by rw[Bo,Ag h2];rfl
 unfold Te at l1 l2;rw[g1]at e1 l1 l2;rw[g2]at e2 l1 l2;exact Ng ∅ ∅
def uY{row:List Nat}{j p:Nat}(f:Nat->Nat)(h:row[j]? =some p):((row.take (j+1)).map f).sum=((row.take j).map f).sum+f p:=by
 rw[Lg,h];simp
def aXr{row:List Nat}(s:Sys G ls ts)(sub:∀p∈bU hs,p∈G)(hi:hs[i]? =some row)(low:∀p∈row,p<ls.length):∀(j p:Nat),row[j]? =some p->((row.take (j+1)).map (Lf ls)).sum<=Te ts p:=by
 intro j;induction j with
 |zero=>
  intro p h;rw[uY _ h,Om,Fm,Vo];have:=(s.sys p (low p (Ai h))).1;unfold Te
  lia
 |succ j ih=>
  intro p h;have jl:j<row.length:=by have:=(List.getElem?_eq_some_iff.mp h).1;lia
  have hq:row[j]? =some row[j]:=Ag jl;have h1:=ih _ hq;obtain⟨e1,r1,_⟩:=s.sys p (low p (Ai h));obtain⟨x,h2,h3⟩:=r1 row[j] (sub _ (gK.mpr #[i,j,row,hi,h,hq]));have h2:=Bi h2;rw[uY _ h];unfold Te at*
  lia
def aNn{m:Nat}{row:List Nat}(s:Sys G ls ts)(sub:∀p∈bU hs,p∈G)(hi:row∈hs)(low:∀p∈row,p<ls.length)(mx:aE5 m ts):(row.map (Lf ls)).sum<=m:=by
 obtain⟨i,hi⟩:=List.mem_iff_getElem?.mp hi;by_cases e:row=[]
 ·rw[e];exact Bg _
 ·have l0:=List.length_pos_iff.mpr e;have hq:row[row.length-1]? =some (row[row.length-1]'∅):=Ag ∅;have h1:=aXr s sub hi low _ _ hq;rw[show row.length-1+1=row.length by lia,Kg]at h1;generalize row[row.length-1]'∅=p at hq h1;have pl:p<ts.length:=by rw[s.len];exact low p (Ai hq)
  have h2:=mx.2 _ (Im pl);unfold Te at h1;rw[Bo,Ag pl]at h1;exact Ci h1 h2
def aW9{row:List Nat}(s:Sys (bU hs) ls ts)(nd:hs.flatten.Nodup)(hi:hs[i]? =some row)(low:∀p∈row,p<ls.length):∀(j p:Nat),row[j]? =some p->Te ts p<=((row.take (j+1)).map (Lf ls)).sum:=by
 intro j;induction j with
 |zero=>
  intro p h;obtain⟨e1,_,b1⟩:=s.sys p (low p (Ai h));rw[uY _ h,Om,Fm,Vo];unfold Te;rcases b1 with z|⟨q,hq,_⟩
  ·lia
  ·obtain⟨i',j',row',h1,h2,h3⟩:=gK.mp hq;obtain⟨_,e2⟩:=kJ nd hi h1 h h2
   lia
 |succ j ih=>
  intro p h;obtain⟨e1,_,b1⟩:=s.sys p (low p (Ai h));rw[uY _ h];unfold Te at*;rcases b1 with z|⟨q,hq,z⟩
  ·lia
  ·obtain⟨i',j',row',h1,h2,h3⟩:=gK.mp hq;obtain⟨e2,e3⟩:=kJ nd hi h1 h h2;rw[<-e2,hi]at h1;cases h1;have:=ih q (by rw[show j=j' by lia];exact h3);have z:=Bi z
   lia
theorem vX{f g:Nat->Nat}{p c:Nat}:∀{l:List Nat},(∀x∈l,f x<=g x)->p∈l->f p+c<=g p->(l.map f).sum+c<=(l.map g).sum
 | [],_,h,_=>by cases h
 |a::l,le,h,hp=>by
  rw[Ba,Ba,Eg,Eg];have la:=le a Ah;have le':∀x∈l,f x<=g x:=λx hx=>le x (Af _ hx);rcases List.mem_cons.mp h with e|h
  ·rw[e]at hp;have:∀l:List Nat,(∀x∈l,f x<=g x)->(l.map f).sum<=(l.map g).sum:=by
    intro l;induction l with
    |nil=>exactλ_=>Aj _
    |cons b l ih=>
     intro h;rw[Ba,Ba,Eg,Eg];have h1:=h b Ah;have h2:=ih λx hx=>h x (Af _ hx)
     lia
   have:=this l le'
   lia
  ·have:=vX le' h hp
   lia
def aOu(hL:∀x∈ls,0<x)(hb:Below ls.length G)(s:Sys G ls ts):∀m p,p<ls.length->Te ts p=m->m<=((Bh ls.length).map λx=>if Te ts x<=m then Lf ls x else 0).sum:=by
 intro m;induction m using Ky with
 |ind m ih=>
  intro p hp e;obtain⟨e1,r1,b1⟩:=s.sys p hp;have L0:=aMx hL hp;have hm:=List.mem_range.mpr hp;rcases b1 with z|⟨q,hq,z⟩
  ·have h1:=vX (f:=λ_=>0) (g:=λx=>if Te ts x<=m then Lf ls x else 0) (c:=Lf ls p) (l:=Bh ls.length) (λx _=>Bg _) hm (by show 0+Lf ls p<=if Te ts p<=m then Lf ls p else 0;rw[if_pos ∅];lia);unfold Te at*
   lia
  ·have z:=Bi z;have lt:#v[98].1<m:=by unfold Te at e;lia
   have h0:=ih _ lt q (hb _ hq).2 z;have h1:=vX (f:=λx=>if Te ts x<=#v[98].1 then Lf ls x else 0) (g:=λx=>if Te ts x<=m then Lf ls x else 0) (c:=Lf ls p) (l:=Bh ls.length) (λx _=>by
    show(if _ then _ else _)<=if _ then _ else _
    split
    ·rw[if_pos ∅];exact Aj _
    ·exact Bg _) hm (by show(if Te ts p<=_ then Lf ls p else 0)+Lf ls p<=if Te ts p<=m then Lf ls p else 0;rw[if_neg ∅,if_pos ∅];lia)
   unfold Te at*
   lia
def aNa(ls:List Nat):(Bh ls.length).map (Lf ls)=ls:=by
 refine So (by simp) λi h1 h2=>?_;simp[Lf,Bo,Ag h2]
def aWg{m:Nat}(hL:∀x∈ls,0<x)(hb:Below ls.length G)(s:Sys G ls ts)(mx:aE5 m ts):m<=ls.sum:=by
 rcases mx.1 with z|⟨t,ht,e⟩
 ·lia
 ·obtain⟨p,hp,rfl⟩:=Gc ht;have pl:p<ls.length:=by rw[<-s.len];exact hp
  have e':Te ts p=m:=by
   unfold Te;rw[Bo,Ag hp];exact e
  have h1:=aOu hL hb s m p pl e';have h2:=vX (f:=λx=>if Te ts x<=m then Lf ls x else 0) (g:=Lf ls) (p:=p) (c:=0) (l:=Bh ls.length) (λx _=>by show(if _ then _ else _)<=_;split<;>lia) (List.mem_range.mpr pl) (by show(if _ then _ else _)+0<=_;split<;>lia);rw[aNa]at h2
  lia
end
end G4
namespace Q
variable {us:List Value}{hs:#v[d]}{ps:List Str}{ls:List Nat}{ns:List Int}{x q:Str}{α:Type}{ts:List Pr}{R:Sl->Prop}{l:List Nat}{i:Nat}{wt wt':List Pr}{t:Tm}{n:Nat}{r:Int}
open PySem PyProof.Rows L2 KR G4
variable {P:Program}{w:World}{K:Ad}{mg:Str->#v[12]}{base:Heap}{f C:Addr}{fd:FuncData}{N:Cn}{d:Nat}{CG CJ CP:Addr}
abbrev ntU(l:List Nat):List U:=l.map λn:Nat=>U.n n
def tab{α:Type}(n:Nat)(L:Nat->α):List α:=(Bh n).map L
def oE{n v:Nat}{L:Nat->α}(h:v<n):(tab n L)[v]? =some (L v):=by simp[tab,h]
def zA{L:Nat->α}:(tab n L).length=n:=by simp[tab]
def zG{n r:Nat}{L:Nat->α}{x:α}:(tab n L).set r x=tab n λv=>if v=r then x else L v:=by
 apply Jy;intro i;rw[Jw];by_cases e:r=i
 ·subst e;by_cases h:r<n
  ·simp[tab,h]
  ·simp[tab,h]
 ·rw[if_neg e];by_cases h:i<n
  ·simp[tab,h,Cg e]
  ·simp[tab,h]
def qI{n v:Nat}(h:v<n):ixN n (v:Int)=some v:=by
 unfold ixN;rw[if_pos ∅,if_pos ∅];rfl
def aPu(dn:List Pr)(p:Pr)(v:Nat):fU (dn++[p]) [] v=fU dn [] v+if v=p.1 then 1 else 0:=by
 unfold fU;rw[List.countP_append,List.countP_singleton];congr 1;simp[eq_comm]
def aOh(dn:List Pr)(p:Pr)(m:Nat):gU (dn++[p]) m=if m=p.2 then gU dn m++[p.1]else gU dn m:=by
 unfold gU;rw[Rq,Ca];by_cases e:m=p.2
 ·rw[if_pos e];simp[e]
 ·rw[if_neg e];simp[Cg e]
def pP(n:Nat):gR 0 n=ntU (Bh n):=by
 unfold gR;exact Jg λi _=>by simp
theorem eE{α:Type}{A:α->U}{B:α->Option U}{f:#v[y]}{R:List U->Prop}:∀{l:List α}{acc:List U},(∀y∈l,∀k,k (B y)->f (A y) k)->R (acc++l.filterMap B)->jT f (l.map A) acc R
 | [],acc,_,r=>by rw[Rr,Bb]at r;exact r
 |y::l,acc,hf,r=>by
  refine hf y Ah _ ?_;have hf':∀y∈l,∀k,k (B y)->f (A y) k:=λx hx=>hf x (Af _ hx);cases e:B y with
  |none=>
   rw[Fy e]at r;exact eE hf' r
  |some x=>
   rw[Fx e]at r;exact eE hf' (by rw[Ce];exact r)
theorem xF{p:Nat->Bool}:∀l:List Nat,l.filterMap (λv=>if p v=true then some (U.n v)else none)=ntU (l.filter p)
 | []=>rfl
 |v::l=>by
  by_cases h:p v=true
  ·rw[Fx (by rw[if_pos h]),Hx h,xF l];rfl
  ·rw[Fy (by rw[if_neg h]),Hy h,xF l]
def aY3{dn:List Pr}{m:Nat}:(gU dn m).length<=dn.length:=by
 unfold gU;rw[Ab];exact Ks ..
def mX(a b:Nat):U.eq (.n (a:Int)) (.n (b:Int))=decide (a=b):=by
 show eqV (.int a) (.int b)=_;by_cases h:a=b
 ·simp[eqV,h]
 ·simp[eqV,h]
  lia
def aNg{ms:List Int}(h:ms.Perm (l.map λn:Nat=>(n:Int))):∃k:List Nat,ms=k.map (λn:Nat=>(n:Int))/\k.Perm l:=by
 refine#[ms.map Ik,?_,?_]
 ·rw[Au];have:∀x∈ms,((λn:Nat=>(n:Int))∘Ik) x=x:=λx hx=>by
   obtain⟨n,_,rfl⟩:=List.mem_map.mp (h.subset hx);simp
  rw[Jg this,List.map_id']
 ·have:=h.map Ik;rw[Au,show(Ik∘λn:Nat=>(n:Int))=id from funext λn=>by simp,Je]at this;exact this
def aNu:Fv:=λus R=>∃(ps:List Pr)(n:Nat),us=[.ls (prU ps),.n n]/\Below n ps/\n<64/\ps.length<=1000/\∀ws,aCz ps n ws->Stuck ps n ws->R (.ow (rwU ws))
abbrev tX:List Str:=["pairs","many","lacking","readers","reader","made","waves","wave","freed"]
def bR:aQ ["pairs","many","lacking","readers","reader","made","waves","wave","freed"] ["pairs","many"] (aC iC):={}
def aMw(F:Fun K "waves_ahead" "waves_ahead" iC f fd)(T:Txt mg):↥1 f fd ["pairs","many"] (spV aNu):=by
 refine vfn F bR (λcdv A outer s H E hr=>(aD (aZ (i:=2) bR.nd (cT aMt aMc (bL (aB aH aF)) (aA 1))) (aD (aM7 (i:=3) (y:="number") bR.nd (aC iC) tX rfl rfl (λx h=>aV h) #v[5] rfl (vic (eV T.range (aJ (aA 1) aM))) ↑(aW (i:=0) (~~~["number"]) rfl (Cv rfl) (Dc rfl)) (bC ⋯) (λcl C s2 H2 fp=>aD3 dN)) (aD (cO Bc rfl (aX (aA 0)) (qL rfl (cF (i:=4) bR.nd (cF (i:=5) bR.nd mF))) (aD (zF 2 (aA 4) (cT dH fH (bH aY bI (aA 2) (aA 4)) aH)) (aG (aF8 3 (aA 5) (aA 4))))) (aDe 3 (aD (aZ (i:=6) bR.nd (bL aF)) (aD (aWs (i:=7) (own:=["number"]) (cap:=[("lacking",2)]) bR.nd (aC iC) tX rfl rfl (λx h=>aV h) #v[5] rfl (vic (eV T.range (aJ (aA 1) aM))) ↑(aW (i:=0) (~~~["number","lacking"]) rfl (Cv rfl) (Dc rfl)) (bC ⋯) ↑(bK #v[V] dD (bH aY bI (aA 1) (aA 0)) aH) ↑(aA 0)) (aD (aEu Bc (bK lF cU (aO aK bF T.len Br (aJ (aA 7) aM)) aH) (fO 7 (aD (uB 6 (aA 7)) (aD (aZ (i:=8) bR.nd (bL aF)) (aD (cO Bc rfl (aX (aA 7)) (cR (i:=5) bR.nd) (aG (cO Bc rfl (aX (bH aY bI (aA 3) (aA 5))) (cR (i:=4) bR.nd) (aD (zF 2 (aA 4) (cT rJ cU (bH aY bI (aA 2) (aA 4)) aH)) (aG (cB (bK #v[V] dD (bH aY bI (aA 2) (aA 4)) aH) (aG (uB 8 (aA 4))) bA)))))) (aG (aZ (i:=7) bR.nd (aO yC aJd T.sorted Pu (aJ (aA 8) aM))))))))) (aG (jH 6)))))))))) ?_;rintro _ R ⟨ps,n,rfl,hb,n64,pl,q⟩;refine#[rfl,∅,∅,⋯,?_];have e0:(Az (n:Int).toNat [U.n 0]).flatten=tab n λ_=>U.n 0:=by
  rw[Bw,Md];unfold tab;rw[Jf,Cw]
 have e1:((gR 0 (n:Int).toNat).map λ_=>([]:List U))=tab n λ_=>[]:=by
  rw[Bw,pP,Au];rfl
 show aXj 2 _ _ (.ow (Az (n:Int).toNat [U.n 0]).flatten);rw[e0];refine#[∅,∅,by rw[Bw,cM];lia,?_];rw[e1];refine bG (λl ρ=>∃(dn rst:List Pr)(a b:Sl),l=prU rst/\dn++rst=ps/\ρ=[.sh (.ls (prU ps)),.sh (.n n),.ow (tab n λv=>U.n (fU dn [] v)),.oo (llO (tab n λm=>ntU (gU dn m))),a,b,.no,.no,.no]) ?_ ?_ #[[],ps,_,_,rfl,rfl,rfl]
 rotate_left
 ·rintro u l ρ ⟨dn,rst,a,b,el,ed,rfl⟩ ih;cases rst with
  |nil=>cases el
  |cons p rst=>
   cases el;obtain⟨p1,p2⟩:=hb p (by rw[<-ed];simp);have dl:dn.length+1<=ps.length:=by rw[<-ed];simp
   have rl:=aY3 (dn:=dn) (m:=p.2);refine#[rfl,U.n (fU dn [] p.1),bQ (oE p1),p.1,p.1,rfl,by rw[zA];exact qI p1,?_];refine#[_,rfl,p.2,p.2,_,rfl,by rw[zA];exact qI p2,oE p2,by rw[Ab];lia,?_];refine ih _ #[dn++[p],rst,.sh (.n p.1),.sh (.n p.2),rfl,by rw[<-ed];simp,?_];show [_,_,Sl.ow ((tab n λv=>U.n (fU dn [] v)).set p.1 (.n ((fU dn [] p.1:Nat)+1))),Sl.oo (llO ((tab n λm=>ntU (gU dn m)).set p.2 (ntU (gU dn p.2)++[.n p.1]))),_,_,_,_,_]=_;rw[zG,zG];have e2:(λv=>if v=p.1 then U.n ((fU dn [] p.1:Nat)+1)else U.n (fU dn [] v))=λv=>U.n (fU (dn++[p]) [] v):=funext λv=>by
    rw[aPu];by_cases e:v=p.1
    ·subst e;simp
    ·simp[e]
   have e3:(λm=>if m=p.2 then ntU (gU dn p.2)++[U.n p.1]else ntU (gU dn m))=λm=>ntU (gU (dn++[p]) m):=funext λm=>by
    rw[aOh];by_cases e:m=p.2
    ·subst e;simp
    ·simp[e]
   rw[e2,e3]
 rintro ρ ⟨dn,rst,a,b,el,ed,rfl⟩;obtain rfl:rst=[]:=List.map_eq_nil_iff.mp el.symm;rw[Bb]at ed;subst ed;refine#[_,rfl,∅,∅,by rw[Bw,cM];lia,?_];rw[Bw,pP];refine eE (B:=λv:Nat=>if decide (fU dn [] v=0)=true then some (U.n v)else none) (λv hv k hk=>?_) ?_
 ·have hv:=List.mem_range.mp hv;refine#[_,bQ (oE hv),trivial,trivial,λz=>?_,λz=>?_]
  ·have z:U.eq (.n (fU dn [] v:Nat)) (.n ((0:Nat):Int))=true:=z;rw[mX]at z;rw[if_pos z]at hk;exact hk
  ·have z:U.eq (.n (fU dn [] v:Nat)) (.n ((0:Nat):Int))=false:=z;rw[mX]at z;rw[if_neg (by rw[z];decide)]at hk;exact hk
 rw[Bd,xF];have ll:((tab n λm=>ntU (gU dn m)).map U.ls)=tab n λm=>U.ls (ntU (gU dn m)):=by unfold tab;rw[Au];rfl
 rw[ll];refine#[λm ρ=>∃(ws:#v[d])(w:List Nat)(a b c x:Sl),(x=.ow (ntU w)∨x=.sh (.ls (ntU w)))/\ρ=[.sh (.ls (prU dn)),.sh (.n n),.ow (tab n λv=>U.n (fU dn ws.flatten v)),.sh #v[N],a,b,.ow (rwU ws),x,c]/\yJ dn n ws w/\m=n-ws.flatten.length,#[_,[],_,_,_,_,_,.inl rfl,rfl,yJ.start rfl,rfl],?_];rintro m ρ ⟨ws,w,a,b,c,x,hx,rfl,kh,rfl⟩;have hkn:=kh.nd;have ew:(ws++[w]).flatten=ws.flatten++w:=by simp
 have hlen:=kI n _ hkn.1 hkn.2.1;rw[ew,Al]at hlen;have wsl:ws.length<=n:=by
  have:∀l:List (List Nat),(∀x∈l,x≠[])->l.length<=l.flatten.length:=by
   intro l;induction l with
   |nil=>intro _;simp
   |cons a l ih=>
    intro h;have h1:=ih λx hx=>h x (Af _ hx);have h2:=List.length_pos_iff.mpr (h a Ah);rw[Dd,Al,Am]
    lia
  have:=this ws kh.ok.full
  lia
 have fz:∀(G:TVS)(E:tY)(s0 s1 s2 s3 s4 s5 s6 s8:Sl),G E [s0,s1,s2,s3,s4,s5,s6,.sh (.ls (ntU w)),s8]->aVq 7 G E [s0,s1,s2,s3,s4,s5,s6,x,s8]:=λG E s0 s1 s2 s3 s4 s5 s6 s8 h=>by
  rcases hx with rfl|rfl<;>exact h
 have ln:∀R:Sl->Prop,R (.sh (.n (w.length:Nat)))->aHu aWv (aUx (aJ8 7) aQs) [.sh (.ls (prU dn)),.sh (.n n),.ow (tab n λv=>U.n (fU dn ws.flatten v)),.sh #v[N],a,b,.ow (rwU ws),x,c] R:=λR h=>by
  rcases hx with rfl|rfl
  ·show R (.sh (.n ((ntU w).length:Nat)));rw[Ab];exact h
  ·show R (.sh (.n ((ntU w).length:Nat)));rw[Ab];exact h
 refine ln _ #[λz=>fz _ _ _ _ _ _ _ _ _ _ ?_,λz=>?_]
 rotate_left
 ·have z:=of_decide_eq_false z;obtain rfl:w=[]:=List.length_eq_zero_iff.mp ∅;exact q ws kh.ok kh.done
 have z:=of_decide_eq_true z;have wn:w≠[]:=λe=>by rw[e]at z;simp at z
 refine#[by rw[Ab];lia,?_];have es:rwU ws++[U.ls (ntU w)]=rwU (ws++[w]):=by simp
 show iI (gZ 5) _ _ (ntU w) [.sh (.ls (prU dn)),.sh (.n n),.ow (tab n λv=>U.n (fU dn ws.flatten v)),.sh #v[N],a,b,.ow (rwU ws++[U.ls (ntU w)]),.sh (.ls (ntU w)),.ow []];rw[es];refine bG (λl ρ=>∃(ds rst F:List Nat)(a b:Sl),l=ntU rst/\ds++rst=w/\Dec n (fU dn ws.flatten) (fU dn (ws.flatten++ds)) F/\ρ=[.sh (.ls (prU dn)),.sh (.n n),.ow (tab n λv=>U.n (fU dn (ws.flatten++ds) v)),.sh #v[N],a,b,.ow (rwU (ws++[w])),.sh (.ls (ntU w)),.ow (ntU F)]) ?_ ?_ #[[],w,[],_,_,rfl,rfl,by rw[Bb];exact .start,by rw[Bb];rfl]
 ·rintro ρ ⟨ds,rst,F,a,b,el,ed,dc,rfl⟩;obtain rfl:rst=[]:=List.map_eq_nil_iff.mp el.symm;rw[Bb]at ed;subst ed;have Fl:F.length<=n:=kI n F dc.nd λv hv=>((dc.mem v).mp hv).1;refine#[F.map λn:Nat=>(n:Int),by rw[Au];rfl,by rw[Ab];lia,λms h1 h2=>?_];obtain⟨k,rfl,kp⟩:=aNg h1;rw[Gz]at h2;have e3:(k.map λn:Nat=>(n:Int)).map U.n=ntU k:=by rw[Au];rfl
  rw[<-ew]at dc;have wl:0<ds.length:=by lia
  refine#[n-(ws++[ds]).flatten.length,by rw[ew,Al];lia,ws++[ds],k,a,b,.ow (ntU F),.ow (ntU k),.inl rfl,?_,yJ.step hb kh wn dc kp (h2.imp λh=>by lia),rfl];rw[ew, <-e3];rfl
 ·rintro u l ρ ⟨ds,rst,F,a,b,el,ed,dc,rfl⟩ ih;cases rst with
  |nil=>cases el
  |cons mm rst=>
   cases el;have mn:mm<n:=hkn.2.1 mm (by rw[ew, <-ed];simp);have mD:mm∉ws.flatten++ds:=λh=>by
    have:=hkn.1;rw[ew, <-ed, <-Ce]at this;exact(List.nodup_append.mp this).2.2 mm h mm Ah rfl
   refine#[_,bQ (oE mn),?_];refine bG (λl ρ=>∃(j:Nat)(L:Nat->Nat)(F:List Nat)(a:Sl),l=ntU ((gU dn mm).drop j)/\j<=(gU dn mm).length/\(∀v,L v+((gU dn mm).take j).count v=fU dn (ws.flatten++ds) v)/\Dec n (fU dn ws.flatten) L F/\ρ=[.sh (.ls (prU dn)),.sh (.n n),.ow (tab n λv=>U.n (L v)),.sh #v[N],a,.sh (.n mm),.ow (rwU (ws++[w])),.sh (.ls (ntU w)),.ow (ntU F)]) ?_ ?_ #[0,_,F,a,by rw[Oq],Bg _,λv=>by rw[Om];rfl,dc,rfl]
   ·rintro ρ ⟨j,L,F,a,e1,hj,hL,dc,rfl⟩;have je:j=(gU dn mm).length:=by
     have:=congrArg Eh e1;simp at this
     lia
    rw[je,Kg]at hL;have eL:L=fU dn (ws.flatten++(ds++[mm])):=funext λv=>by
     have h1:=hL v;have h2:=uP mD v dn;rw[<-Ce]
     lia
    rw[eL]at dc⊢;exact ih _ #[ds++[mm],rst,F,a,_,rfl,by rw[<-ed];simp,dc,rfl]
   ·rintro u l ρ ⟨j,L,F,a,e1,hj,hL,dc,rfl⟩ ih2;have hlt:j<(gU dn mm).length:=by
     have:=congrArg Eh e1;simp at this
     lia
    rw[Fp hlt]at e1;cases e1;have hr:=Ag hlt;generalize hg:(gU dn mm)[j]=r at hr⊢;have rn:r<n:=by
     have:r∈gU dn mm:=Ai hr;obtain⟨p,hp,rfl⟩:=List.mem_map.mp this;exact(hb p (List.mem_filter.mp hp).1).1
    obtain⟨h0,hL'⟩:=aKj mD hL hr;refine#[_,bQ (oE rn),r,r,rfl,by rw[zA];exact qI rn,?_];have et:(tab n λv=>U.n (L v)).set r (.n ((L r:Nat)-1:Int))=tab n λv=>U.n (less L r v):=by
     rw[zG];congr 1;funext v;unfold less;by_cases e:v=r
     ·rw[if_pos e,if_pos e];congr 1
      lia
     ·rw[if_neg e,if_neg e]
    show tY.nx _ [.sh (.ls (prU dn)),.sh (.n n),.ow ((tab n λv=>U.n (L v)).set r (.n ((L r:Nat)-1:Int))),.sh #v[N],.sh (.n r),.sh (.n mm),.ow (rwU (ws++[w])),.sh (.ls (ntU w)),.ow (ntU F)];rw[et];have lr:less L r r=L r-1:=if_pos rfl;refine#[_,bQ (oE rn),trivial,trivial,λz=>?_,λz=>?_]
    ·have z:U.eq (.n (less L r r:Nat)) (.n ((0:Nat):Int))=true:=z;rw[mX]at z;have z:=of_decide_eq_true z;have fl:=kI n F dc.nd λv hv=>((dc.mem v).mp hv).1;refine#[by rw[Ab];lia,ih2 _ #[j+1,less L r,F++[r],.sh (.n r),rfl,hlt,hL',dc.step0 rn ∅,?_]];rw[show ntU (F++[r])=ntU F++[U.n r]from Ca];rfl
    ·have z:U.eq (.n (less L r r:Nat)) (.n ((0:Nat):Int))=false:=z;rw[mX]at z;have z:=of_decide_eq_false z;exact ih2 _ #[j+1,less L r,F,.sh (.n r),rfl,hlt,hL',dc.step1 ∅,rfl]
def aSk{l:#v[d]}:(∀x∈l,x≠[])->l.length<=l.flatten.length:=by
 induction l with
 |nil=>intro _;simp
 |cons a l ih=>
  intro h;have h1:=ih λx hx=>h x (Af _ hx);have h2:=List.length_pos_iff.mpr (h a Ah);rw[Dd,Al,Am]
  lia
def aSa(l:#v[d]):(l.map λw=>(w.length:Int)).sum=(l.flatten.length:Nat):=by
 induction l with
 |nil=>rfl
 |cons a l ih=>
  rw[Ba,Eg,ih,Dd,Al]
  lia
def aY9(ps:List Pr)(n:Nat)(ws:#v[d]):Prop:=aCz ps n ws/\∀v,v<n->v∈ws.flatten
def fOf:Fv:=λus R=>∃(ps:List Pr)(n:Nat),us=[.ls (prU ps),.n n]/\Below n ps/\n<64/\ps.length<=1000/\(∀ws,Stuck ps n ws->∀v,v<n->v∈ws.flatten)/\∀ws,aY9 ps n ws->R (.sh (.ls (rwU ws)))
abbrev aG2:List Str:=["pairs","many","waves"]
def xR:aQ ["pairs","many","waves"] ["pairs","many"] (aC qP):={}
def bAs(F:Fun K "waves_of" "waves_of" qP f fd)(c_waves_ahead:⇑1 "waves_ahead" ["pairs","many"] (spV aNu))(T:Txt mg):↥2 f fd ["pairs","many"] (spV fOf):=by
 refine vfn F xR (λcdv A outer s H E hr=>(aD (aZ (i:=2) xR.nd (aL c_waves_ahead (hr.mono ⋯) rfl (aB (aA 0) (aB (aA 1) aF)))) (fO 2 (aD (cB (bK aGa cU (aO (vA rfl) aDy T.sum Uh (aJ (dR (own:=["wave"]) (cap:=[]) (aC qP) aG2 rfl rfl (λx h=>aV h) #v[5] rfl (vic (aX (aA 2))) ↑(aW (i:=0) (~~~["wave"]) rfl (Cv rfl) (Dc rfl)) (bC ⋯) ↑#v[a]) aM)) (aA 1)) (aG (aU rM)) bA) (aG (jH 2)))))) ?_;rintro _ R ⟨ps,n,rfl,hb,n64,pl,no,q⟩;refine#[rfl,ps,n,rfl,hb,n64,pl,λws ok st=>?_];have cv:=no ws st;have fl:=kI n _ ok.nodup ok.below;have fg:n<=ws.flatten.length:=by
  have:=aCc (Bh n) ws.flatten Fh λv hv=>cv v (List.mem_range.mp hv)
  rwa [Cw]at this
 have wl:=aSk ok.full;have wr:∀w∈ws,w.length<=n:=λw hw=>by
  have:=(Gp hw).length_le
  lia
 refine#[by rw[Ab];lia,eE (B:=λw:List Nat=>some (U.n (w.length:Nat))) (λw hw k hk=>?_) ?_]
 ·show k (some (.n ((ntU w).length:Nat)));rw[Ab];exact hk
 refine#[ws.map λw=>(w.length:Int),?_,by rw[Ab];lia,λx hx=>?_,λz=>?_,λ_=>q ws #[ok,cv]]
 ·rw[Bd,Cu,Au];rfl
 ·obtain⟨w,hw,rfl⟩:=List.mem_map.mp hx;have:=wr w hw
  lia
 ·have z:=of_decide_eq_true z;rw[aSa]at z
  lia
def nD(ps:List Pr)(v:Nat):List Nat:=(ps.filter λp=>decide (p.1=v)).map (·.2)
def aXh(dn:List Pr)(p:Pr)(m:Nat):nD (dn++[p]) m=if m=p.1 then nD dn m++[p.2]else nD dn m:=by
 unfold nD;rw[Rq,Ca];by_cases e:m=p.1
 ·rw[if_pos e];simp[e]
 ·rw[if_neg e];simp[Cg e]
def aTu:(nD dn m).length<=dn.length:=by
 unfold nD;rw[Ab];exact Ks ..
def aCu{ps:List Pr}{v q:Nat}:q∈nD ps v↔(v,q)∈ps:=by
 unfold nD;constructor
 ·intro h;obtain⟨p,hp,rfl⟩:=List.mem_map.mp h;obtain⟨h1,h2⟩:=List.mem_filter.mp hp;rw[<-of_decide_eq_true h2];exact h1
 ·exactλh=>List.mem_map.mpr #[_,List.mem_filter.mpr #[h,decide_eq_true rfl],rfl]
def aTo{g:α->Nat}{l:List α}:[U.ls (l.map λq=>U.n (g q))]=[U.ls ((l.map λq=>((g q:Nat):Int)).map U.n)]:=by
 rw[Au];rfl
def xG(h:i<ts.length):(prU ts)[i]? =some (.tp [.n (ts.getD i (0,0)).1,.n (ts.getD i (0,0)).2]):=by
 rw[Ay,Bo,Ag h];rfl
def aD7(h:i<l.length):(ntU l)[i]? =some (.n (Lf l i)):=by
 unfold Lf;rw[Ay,Bo,Ag h];rfl
def aCs{g:α->Nat}{l:List α}:ntU (l.map g)=l.map λq=>U.n (g q):=by
 show(l.map g).map (λn:Nat=>U.n n)=_;rw[Au];rfl
def aV1:prU (ts.set i p)=(prU ts).set i (.tp [.n p.1,.n p.2]):=Qd ..
def aGz:Fv:=λus R=>∃(ls:List Nat)(ps:List Pr),us=[.ls (ntU ls),.ls (prU ps)]/\Below ls.length ps/\ls.length<64/\ps.length<=1000/\(∀ws,Stuck ps ls.length ws->∀v,v<ls.length->v∈ws.flatten)/\∀ts,Sys ps ls ts->R (.ow (prU ts))
abbrev zV:List Str:=["lasts","pairs","waves","awaited","waiting","other","times","wave","piece","begin"]
def dZ:aQ ["lasts","pairs","waves","awaited","waiting","other","times","wave","piece","begin"] ["lasts","pairs"] (aC nJ):={}
def aOn(F:Fun K "times_of" "times_of" nJ f fd)(c_waves_of:⇑2 "waves_of" ["pairs","many"] (spV fOf))(T:Txt mg):↥3 f fd ["lasts","pairs"] (spV aGz):=by
 refine vfn F dZ (λcdv A outer s H E hr=>(aD (aZ (i:=2) dZ.nd (aL c_waves_of (hr.mono ⋯) rfl (aB (aA 1) (aB #v[a] aF)))) (aD (cB (aU5 (aA 2)) (aG jJ) bA) (aD (aM7 (i:=3) (y:="last") dZ.nd (aC nJ) zV rfl rfl (λx h=>aV h) #v[5] rfl (vic (aX (aA 0))) ↑(aW (i:=0) (~~~["last"]) rfl (Cv rfl) (Dc rfl)) (bC ⋯) (λcl C s2 H2 fp=>aD3 dN)) (aD (cO Bc rfl (aX (aA 1)) (qL rfl (cF (i:=4) dZ.nd (cF (i:=5) dZ.nd mF))) (aG (aF8 3 (aA 4) (aA 5)))) (aDe 3 (aD (aZ (i:=6) dZ.nd (cT aMt aMc (bL (aB (dM (aB aH (aB aH aF))) aF)) #v[a])) (aD (cO Bc rfl (aX (aA 2)) (cR (i:=7) dZ.nd) (aG (cO Bc rfl (aX (aA 7)) (cR (i:=8) dZ.nd) (aD (aZ (i:=9) dZ.nd (uW rfl T.max (aJ (dR (own:=["other"]) (cap:=[("times",6)]) (aC nJ) zV rfl rfl (λx h=>aV h) #v[5] rfl (vic (aX (bH aY bI (aA 3) (aA 8)))) ↑(aW (i:=0) (~~~["other","times"]) rfl (Cv rfl) (Dc rfl)) (bC ⋯) ↑(bH aY bI (bH aY bI (aA 1) (aA 0)) aH)) aM) aH)) (aG (zF 6 (aA 8) (dM (aB (aA 9) (aB (cT dH fH (aA 9) (bH aY bI (aA 0) (aA 8))) aF))))))))) (aG (jH 6)))))))))) ?_;rintro _ R ⟨ls,ps,rfl,hb,n64,pl,no,q⟩;refine#[rfl,ps,ls.length,by rw[Ab],hb,n64,pl,no,λws wh=>?_];have e1:((ntU ls).map λ_=>([]:List U))=tab ls.length λ_=>[]:=by
  rw[Au];unfold tab;rw[Jf,Cw];exact Jf ..
 refine#[nofun,λ_=>#[by rw[Ab];lia,?_]];rw[e1];refine bG (λl ρ=>∃(dn rst:List Pr)(a b:Sl),l=prU rst/\dn++rst=ps/\ρ=[.sh (.ls (ntU ls)),.sh (.ls (prU ps)),.sh (.ls (rwU ws)),.oo (llO (tab ls.length λm=>ntU (nD dn m))),a,b,.no,.no,.no,.no]) ?_ ?_ #[[],ps,_,_,rfl,rfl,rfl]
 rotate_left
 ·rintro u l ρ ⟨dn,rst,a,b,el,ed,rfl⟩ ih;cases rst with
  |nil=>cases el
  |cons p rst=>
   cases el;obtain⟨p1,p2⟩:=hb p (by rw[<-ed];simp);have dl:dn.length+1<=ps.length:=by rw[<-ed];simp
   have rl:=aTu (dn:=dn) (m:=p.1);refine#[rfl,_,rfl,p.1,p.1,_,rfl,by rw[zA];exact qI p1,oE p1,by rw[Ab];lia,?_];refine ih _ #[dn++[p],rst,.sh (.n p.1),.sh (.n p.2),rfl,by rw[<-ed];simp,?_];show [_,_,_,Sl.oo (llO ((tab ls.length λm=>ntU (nD dn m)).set p.1 (ntU (nD dn p.1)++[.n p.2]))),_,_,_,_,_,_]=_;rw[zG];have e3:(λm=>if m=p.1 then ntU (nD dn p.1)++[U.n p.2]else ntU (nD dn m))=λm=>ntU (nD (dn++[p]) m):=funext λm=>by
    rw[aXh];by_cases e:m=p.1
    ·subst e;simp
    ·simp[e]
   rw[e3]
 rintro ρ ⟨dn,rst,a,b,el,ed,rfl⟩;obtain rfl:rst=[]:=List.map_eq_nil_iff.mp el.symm;rw[Bb]at ed;subst ed;have ll:((tab ls.length λm=>ntU (nD dn m)).map U.ls)=tab ls.length λm=>U.ls (ntU (nD dn m)):=by unfold tab;rw[Au];rfl
 refine#[_,rfl,?_];rw[ll];have e0:(Az (((ntU ls).length:Nat):Int).toNat [U.tp [.n 0,.n 0]]).flatten=prU (Az ls.length (0,0)):=by
  rw[Bw,Md,Ab];show _=Up (λp:Pr=>U.tp [.n p.1,.n p.2]) _;rw[Lz];rfl
 refine#[∅,by rw[Ab];lia,⋯,?_];show tY.nx _ [.sh (.ls (ntU ls)),.sh (.ls (prU dn)),.sh (.ls (rwU ws)),.sh #v[R],a,b,.ow (Az (((ntU ls).length:Nat):Int).toNat [U.tp [.n 0,.n 0]]).flatten,.no,.no,.no];rw[e0];have ok:=wh.1;refine bG (λl ρ=>∃(ds rst:#v[d])(ts:List Pr)(b c d e:Sl),l=rwU rst/\ds++rst=ws/\Tm dn ls ds.flatten ts/\ρ=[.sh (.ls (ntU ls)),.sh (.ls (prU dn)),.sh (.ls (rwU ws)),.sh #v[R],a,b,.ow (prU ts),c,d,e]) ?_ ?_ #[[],ws,_,_,_,_,_,rfl,rfl,Tm.start (by rw[Dn]),rfl]
 ·rintro ρ ⟨ds,rst,ts,b,c,d,e,el,ed,tm,rfl⟩;obtain rfl:rst=[]:=List.map_eq_nil_iff.mp el.symm;rw[Bb]at ed;subst ed;exact q ts #[tm.len,λp hp=>tm.sys p (wh.2 p hp)]
 rintro u l ρ ⟨ds,rst,ts,b,c,d,e,el,ed,tm,rfl⟩ ih;cases rst with
 |nil=>cases el
 |cons wv rst=>
 cases el;have hi:ws[ds.length]? =some wv:=by rw[<-ed];simp
 have et:ws.take ds.length=ds:=by rw[<-ed];simp
 show iI (gZ 8) _ _ (ntU wv) [.sh (.ls (ntU ls)),.sh (.ls (prU dn)),.sh (.ls (rwU ws)),.sh #v[R],a,b,.ow (prU ts),.sh (.ls (ntU wv)),d,e];refine bG (λl ρ=>∃(d2 r2:List Nat)(ts:List Pr)(b d e:Sl),l=ntU r2/\d2++r2=wv/\Tm dn ls (ds.flatten++d2) ts/\ρ=[.sh (.ls (ntU ls)),.sh (.ls (prU dn)),.sh (.ls (rwU ws)),.sh #v[R],a,b,.ow (prU ts),.sh (.ls (ntU wv)),d,e]) ?_ ?_ #[[],wv,ts,_,_,_,rfl,rfl,by rw[Bb];exact tm,rfl]
 ·rintro ρ ⟨d2,r2,ts,b,d,e,el,e2,tm,rfl⟩;obtain rfl:r2=[]:=List.map_eq_nil_iff.mp el.symm;rw[Bb]at e2;subst e2;exact ih _ #[ds++[d2],rst,ts,_,_,_,_,rfl,by rw[<-ed];simp,by simpa using tm,rfl]
 rintro u l ρ ⟨d2,r2,ts,b0,d,e,el,e2,tm,rfl⟩ ih2;cases r2 with
 |nil=>cases el
 |cons p r2=>
 cases el;have hj:wv[d2.length]? =some p:=by rw[<-e2];simp
 have et2:wv.take d2.length=d2:=by rw[<-e2];simp
 have nd:=aOe ok.nodup hi hj;rw[et,et2]at nd;have pn:p<ls.length:=ok.below p (List.mem_flatten.mpr #[wv,Ai hi,Ai hj]);have pre:∀q,(p,q)∈dn->q∈ds.flatten++d2:=λq m=>Bf _ (by have:=ok.lean _ wv hi p (Ai hj) q m;rwa [et]at this);have aw:∀q∈nD dn p,q<ls.length:=λq m=>(hb _ (aCu.mp m)).2;have al:=aTu (dn:=dn) (m:=p);refine#[_,bQ (oE pn),by rw[Ab];lia,eE (B:=λq:Nat=>some (U.n ((ts.getD q (0,0)).2:Nat))) (λq hq k hk=>?_) ?_]
 ·exact#[_,bQ (xG (by rw[tm.len];exact aw q hq)),_,rfl,hk]
 rw[Bd,Cu];have fin:∀b:Nat,IsB dn (Tf ts) p b->Tm dn ls (ds.flatten++(d2++[p])) (ts.set p (b,b+Lf ls p)):=λb ib=>by
  rw[<-Ce];exact tm.step pn nd pre ib
 have go:∀b:Nat,IsB dn (Tf ts) p b->_:=λb ib=>ih2 [.sh (.ls (ntU ls)),.sh (.ls (prU dn)),.sh (.ls (rwU ws)),.sh #v[R],a,b0,.ow ((prU ts).set p (.tp [.n b,.n (b+Lf ls p)])),.sh (.ls (ntU wv)),.sh (.n p),.sh (.n b)] #[d2++[p],r2,ts.set p (b,b+Lf ls p),b0,.sh (.n p),.sh (.n b),rfl,by rw[<-e2];simp,fin b ib,by rw[aV1];rfl];have ix:ixN (prU ts).length (p:Int)=some p:=by rw[Ab,tm.len];exact qI pn
 refine#[_,aTo,λh0=>?_,λm hm hx=>?_]
 ·have h0:nD dn p=[]:=List.map_eq_nil_iff.mp h0;exact#[_,bQ (aD7 pn),p,p,rfl,ix,go 0 #[λq m=>(by have:=aCu.mpr m;rw[h0]at this;cases this),.inl rfl]]
 ·obtain⟨q,mq,rfl⟩:=List.mem_map.mp hm;exact#[_,bQ (aD7 pn),p,p,rfl,ix,go _ #[λq m=>#[_,rfl,by have:=hx _ (List.mem_map.mpr #[q,aCu.mpr m,rfl]);lia],.inr #[q,aCu.mp mq,rfl]]]
def aZw(row:List Nat):mC (ntU row) (some 1) none=ntU (row.drop 1):=by
 unfold mC;cases row with
 |nil=>rfl
 |cons a t=>
  rw[show HT.sIx (ntU (a::t)).length 0 (some 1)=1 by rw[show(some (1:Int))=some ((1:Nat):Int)from rfl,HT.yS,Ab,Am];lia,HT.zX];rw[Ab,Am,Nat.add_sub_cancel];simp only[Ba,List.drop_succ_cons,Oq];exact El (by simp)
theorem aUb:∀l m:List Nat,vG (ntU l) (ntU m)=prU (l.zip m)
 | [],_=>rfl
 |_::_,[]=>rfl
 |a::l,b::m=>congrArg (U.tp [.n a,.n b]::·) (aUb l m)
def aHy:Fv:=λus R=>∃(ps:List Pr)(rs:#v[d]),us=[.ls (prU ps),.ls (rwU rs)]/\ps.length<=401/\rs.flatten.length<64/\R (.ow (prU (ps++bU rs)))
def qC:aQ ["pairs","rows","longer","row"] ["pairs","rows"] (aC rN):={}
def aMj(F:Fun K "with_rows" "with_rows" rN f fd)(T:Txt mg):↥1 f fd ["pairs","rows"] (spV aHy):=by
 refine vfn F qC (λcdv A outer s H E hr=>(aD (aZ (i:=2) qC.nd #v[69]) (aD (cO Bc rfl (aX (aA 1)) (cR (i:=3) qC.nd) (aG (wK 2 (aRj rfl T.list T.zip (aJ (aOa (aA 3) (uV aH) aD4) (aJ (aA 3) aM)))))) (aG (jH 2))))) ?_;rintro _ R ⟨ps,rs,rfl,pl,rl,q⟩;refine#[rfl,?_];refine bG (λl ρ=>∃(dn rst:#v[d])(a:Sl),l=rwU rst/\dn++rst=rs/\ρ=[.sh (.ls (prU ps)),.sh (.ls (rwU rs)),.ow (prU (ps++bU dn)),a]) ?_ ?_ #[[],rs,_,rfl,rfl,by show _=[_,_,Sl.ow (prU (ps++[])),_];rw[Bb];rfl]
 ·rintro ρ ⟨dn,rst,a,el,ed,rfl⟩;obtain rfl:rst=[]:=List.map_eq_nil_iff.mp el.symm;rw[Bb]at ed;subst ed;exact q
 ·rintro u l ρ ⟨dn,rst,a,el,ed,rfl⟩ ih;cases rst with
  |nil=>cases el
  |cons p rst=>
   cases el;have sl:=(Gp (show p∈rs by rw[<-ed];simp)).length_le;have rd:=sZ dn;have rd2:dn.flatten.length<=rs.flatten.length:=by rw[<-ed,Lh,Al];lia
   refine#[_,_,rfl,?_];show(mC (ntU p) (some 1) none).length<=(ntU p).length/\(prU (ps++bU dn)).length+(vG (mC (ntU p) (some 1) none) (ntU p)).length<10000/\tY.nx _ [.sh (.ls (prU ps)),.sh (.ls (rwU rs)),.ow (prU (ps++bU dn)++vG (mC (ntU p) (some 1) none) (ntU p)),.sh (.ls (ntU p))];rw[aZw,aUb];refine#[by rw[Ab,Ab,Ej];lia,by rw[Ab,Ab,Al,Tj];lia,ih _ #[dn++[p],rst,.sh (.ls (ntU p)),rfl,by rw[<-ed];simp,?_]];have er:bU (dn++[p])=bU dn++(p.drop 1).zip p:=by simp[bU]
   rw[er, <-Ce,show prU (ps++bU dn++(p.drop 1).zip p)=prU (ps++bU dn)++prU ((p.drop 1).zip p)from Ca]
def aN0:Fv:=λus R=>∃ts:List Pr,us=[.ls (prU ts)]/\ts.length<=1000/\∀m:Nat,aE5 m ts->R (.sh (.n m))
abbrev aHm:List Str:=["times"]
def aFp:aQ ["times"] ["times"] (aC rB):={}
def aS1(F:Fun K "last_end" "last_end" rB f fd)(T:Txt mg):↥1 f fd ["times"] (spV aN0):=by
 refine vfn F aFp (λcdv A outer s H E hr=>(aG (aU (uW rfl T.max (aJ (dR (own:=["begin","end"]) (cap:=[]) (aC rB) aHm rfl rfl (λx h=>aV h) #v[5] rfl (vic (aX (aA 0))) ↑(xP rfl (fZ (aW (i:=0) (~~~["begin","end"]) rfl (Cv rfl) (Dc rfl)) (fZ (aW (i:=1) (~~~["begin","end"]) rfl (Cv rfl) (Dc rfl)) tD))) (aAd (is:=[0,1]) rfl ⋯) ↑(aA 1)) aM) aH)))) ?_;rintro _ R ⟨ts,rfl,tl,q⟩;refine#[rfl,by rw[Ab];lia,eE (B:=λt:Pr=>some (U.n (t.2:Nat))) (λt ht k hk=>#[rfl,hk]) ?_];rw[Bd,Cu];refine#[_,aTo,λh0=>?_,λm hm hx=>?_]
 ·obtain rfl:ts=[]:=List.map_eq_nil_iff.mp h0;exact q 0 #[.inl rfl,λ_ h=>nomatch h]
 ·obtain⟨t,mt,rfl⟩:=List.mem_map.mp hm;exact q _ #[.inr #[t,mt,rfl],λt m=>by have:=hx _ (List.mem_map.mpr #[t,m,rfl]);lia]
def aDc(P:Program)(w:World)(CP:Addr)(j:U)(ps:#v[88])(hs:#v[d])(wt:List Pr)(sl:List Tk):U:=.ob CP pNm (aM5 P w j ps hs wt sl)
def aCn{P:Program}{w:World}{ps hs wt sl}(q:R (.sh (.ls (pcU ps)))):aBa "pieces" pNm (aM5 P w j ps hs wt sl) R:=aAu (k:=1) q #v[5] rfl rfl
def aGo{P:Program}{w:World}{ps hs wt sl}(q:R (.sh (.ls (rwU hs)))):aBa "hands" pNm (aM5 P w j ps hs wt sl) R:=aAu (k:=2) q #v[5] rfl rfl
def aGb{P:Program}{w:World}{ps hs wt sl}(q:R (.sh (.ls (prU wt)))):aBa "waits" pNm (aM5 P w j ps hs wt sl) R:=aAu (k:=3) q #v[5] rfl rfl
abbrev lens(ps:#v[88]):List Nat:=ps.map Eh
structure GoodW(ls:List Nat)(hs:#v[d])(wt:List Pr):Prop where
 n64:ls.length<64
 sh:Shared hs ls.length
 h1:1<=hs.length
 h4:hs.length<=4
 wk:Below ls.length wt
 wl:wt.length<=400
 no:∀ws,Stuck (wt++bU hs) ls.length ws->∀v,v<ls.length->v∈ws.flatten
def aA0(h:Shared hs n):Below n (bU hs):=λp hp=>by
 obtain⟨i,j,row,h1,h2,h3⟩:=gK.mp (show(p.1,p.2)∈bU hs from hp);have k:∀v∈row,v<n:=λv hv=>List.mem_range.mp (h.subset (List.mem_flatten.mpr #[row,Ai h1,hv]));exact#[k _ (Ai h2),k _ (Ai h3)]
def GoodW.below{wt:List Pr}(g:GoodW ls hs wt):Below ls.length (wt++bU hs):=λp hp=>#v[74].elim (g.wk p) (aA0 g.sh p)
def GoodW.fl{wt:List Pr}(g:GoodW ls hs wt):hs.flatten.length=ls.length:=by
 have:=g.sh.length_eq
 rwa [Cw]at this
def aDo(P:Program)(w:World)(CP:Addr):Fv:=λus R=>∃j ps hs wt sl,us=[aDc P w CP j ps hs wt sl]/\GoodW (lens ps) hs wt/\∀ts,Sys (wt++bU hs) (lens ps) ts->R (.ow (prU ts))
abbrev aDv:List Str:=["paper"]
def aBq:aQ ["paper"] ["paper"] (aC mL):={}
def aLu(F:Fun K "walk_times" "walk_times" mL f fd)(cQ:Cfl K CP pNm)(c_times_of:⇑3 "times_of" ["lasts","pairs"] (spV aGz))(c_with_rows:⇑1 "with_rows" ["pairs","rows"] (spV aHy))(T:Txt mg):↥4 f fd ["paper"] (spV (aDo P w CP)):=by
 refine vfn F aBq (λcdv A outer s H E hr=>(aG (aU (aL c_times_of (hr.mono ⋯) rfl (aB (dR (own:=["piece"]) (cap:=[]) (aC mL) aDv rfl rfl (λx h=>aV h) #v[5] rfl (vic (aX (dW cQ (aA 0)))) ↑(aW (i:=0) (~~~["piece"]) rfl (Cv rfl) (Dc rfl)) (bC ⋯) ↑#v[a]) (aB (aL c_with_rows (hr.mono ⋯) rfl (aB (dW cQ (aA 0)) (aB (dW cQ (aA 0)) aF))) aF)))))) ?_;rintro _ R ⟨j,ps,hs,wt,sl,rfl,g,q⟩;have pl:=g.n64;rw[Ab]at pl;have rl:=sZ hs;have fl:=g.fl;rw[Ab]at fl;have wl:=g.wl;refine#[rfl,rfl,aCn #[by rw[Ab];lia,eE (B:=λp:List Tk=>some (U.n (p.length:Nat))) (λp hp k hk=>?_) ?_]]
 ·show k #v[95];rw[Ab];exact hk
 rw[Bd,Cu, <-aCs];refine#[rfl,aGb #[rfl,aGo #[wt,hs,rfl,∅,∅,?_]]];exact#[lens ps,wt++bU hs,rfl,g.below,g.n64,by rw[Al];lia,g.no,q]
def aTn(P:Program)(w:World)(CP:Addr):Fv:=λus R=>∃j ps hs wt sl,us=[aDc P w CP j ps hs wt sl]/\GoodW (lens ps) hs wt/\∀ts m,Sys (wt++bU hs) (lens ps) ts->aE5 m ts->R (.sh (.n m))
def aGe:aQ ["paper"] ["paper"] (aC uO):={}
def aSw(F:Fun K "walk_end" "walk_end" uO f fd)(c_walk_times:⇑4 "walk_times" ["paper"] (spV (aDo P w CP)))(c_last_end:⇑1 "last_end" ["times"] (spV aN0))(T:Txt mg):↥5 f fd ["paper"] (spV (aTn P w CP)):=by
 refine vfn F aGe (λcdv A outer s H E hr=>(aG (aU (aL c_last_end (hr.mono ⋯) rfl (aB (aL c_walk_times (hr.mono ⋯) rfl (aB (aA 0) aF)) aF))))) ?_;rintro _ R ⟨j,ps,hs,wt,sl,rfl,g,q⟩;refine#[rfl,j,ps,hs,wt,sl,rfl,g,λts sy=>#[ts,rfl,?_,λm hm=>q ts m sy hm]];have:=g.n64;rw[sy.len]
 lia
def aUy:Fv:=λus R=>∃ls hs wt,us=[.ls (ntU ls),.ls (prU wt),.ls (rwU hs)]/\GoodW ls hs wt/\∀ts m,Sys (wt++bU hs) ls ts->aE5 m ts->R (.sh (.n m))
def aGq:aQ ["lasts","pairs","rows"] ["lasts","pairs","rows"] (aC uG):={}
def aR6(F:Fun K "rows_end" "rows_end" uG f fd)(c_times_of:⇑3 "times_of" ["lasts","pairs"] (spV aGz))(c_with_rows:⇑1 "with_rows" ["pairs","rows"] (spV aHy))(c_last_end:⇑1 "last_end" ["times"] (spV aN0))(c_are_shared_out:⇑4 "are_shared_out" ["thing","many"] (spV aDu))(T:Txt mg):↥5 f fd ["lasts","pairs","rows"] (spV aUy):=by
 refine vfn F aGq (λcdv A outer s H E hr=>(aD (cB (iD (jA (cH (cI (aL c_are_shared_out (hr.mono ⋯) rfl (aB (aA 2) (aB #v[a] aF))))) (fB (bK #v[V] dD #v[52] aH)))) (aG jJ) bA) (aG (aU (aL c_last_end (hr.mono ⋯) rfl (aB (aL c_times_of (hr.mono ⋯) rfl (aB (aA 0) (aB (aL c_with_rows (hr.mono ⋯) rfl (aB (aA 1) (aB (aA 2) aF))) aF))) aF)))))) ?_;rintro _ R ⟨ls,hs,wt,rfl,g,q⟩;have pl:=g.n64;have rl:=sZ hs;have fl:=g.fl;have wl:=g.wl;have h1:=g.h1;have h4:=g.h4;refine#[rfl,hs,ls.length,by rw[Ab],g.sh,g.n64,∅,?_];refine#[nofun,λ_=>#[trivial,trivial,λz=>?_,λ_=>?_]]
 ·have z:U.eq (.n ((rwU hs).length:Nat)) (.n ((0:Nat):Int))=true:=z;rw[mX,Ab]at z;have:=of_decide_eq_true z
  lia
 refine#[wt,hs,rfl,∅,∅,?_];refine#[ls,wt++bU hs,rfl,g.below,g.n64,by rw[Al];lia,g.no,λts sy=>#[ts,rfl,?_,λm hm=>q ts m sy hm]];rw[sy.len]
 lia
structure aI7(ns:List Int)(r:Int)(ps:#v[88])(hs:#v[d])(wt:List Pr):Prop where
 pl:ps.length<=8
 pg:∀p∈ps,p≠[]/\p.length<=6/\∀q∈p,q∈spS ns r.toNat
 sh:Shared hs ps.length
 h1:1<=hs.length
 h4:hs.length<=4
 wk:Below ps.length wt
 wl:wt.length<=6
theorem wL{S:List Tk}:∀{xs:List U},(∀x∈xs,∃q∈S,x=tkU q)->∃p:List Tk,xs=p.map tkU/\∀q∈p,q∈S
 | [],_=>#[[],rfl,nofun]
 |x::xs,h=>by
  obtain⟨q,hq,rfl⟩:=h x Ah;obtain⟨p,rfl,hp⟩:=wL (xs:=xs) λy hy=>h y (Af _ hy);exact#[q::p,rfl,λz hz=>(List.mem_cons.mp hz).elim (λe=>by rw[e];exact hq) (hp z)]
theorem aEp(h:row'.Perm (p::row)):∀{hs:#v[d]}{i:Nat},hs[i]? =some row->(hs.set i row').flatten.Perm (p::hs.flatten)
 | [],_,e=>by cases e
 |a::hs,0,e=>by
  cases e;exact h.append_right hs.flatten
 |a::hs,i+1,e=>((aEp h (hs:=hs) e).append_left a).trans Kh
def pk{x y n:Nat}{c:Bool}(hx:x<n)(hy:y<n):∃p:Pr,p.1<n/\p.2<n/\atI [U.tp [.n (if(y:Int)>x then(y:Int)else x),.n (if(y:Int)<x then(y:Int)else x)],.tp [.n x,.n y]] (if c then 1 else 0)=some (.tp [.n p.1,.n p.2]):=by
 cases c
 ·refine#[(if y>x then y else x,if y<x then y else x),?_,?_,?_]
  ·show(if y>x then y else x)<n;split<;>lia
  ·show(if y<x then y else x)<n;split<;>lia
  ·have e1:(((if y>x then y else x:Nat)):Int)=if(y:Int)>x then(y:Int)else x:=by split<;>split<;>lia
   have e2:(((if y<x then y else x:Nat)):Int)=if(y:Int)<x then(y:Int)else x:=by split<;>split<;>lia
   show some _=some (U.tp [.n ((if y>x then y else x:Nat):Int),.n ((if y<x then y else x:Nat):Int)]);rw[e1,e2]
 ·exact#[(x,y),hx,hy,rfl]
def aMn:Fv:=λus R=>∃ns rs ys r,us=[wD ns rs ys r,.wl]/\aJ0 ns rs ys r/\∀ps hs wt,aI7 ns r ps hs wt->R (.sh (.tp [.ls (pcU ps),.ls (rwU hs),.ls (prU wt)]))
abbrev vJ:List Str:=["_law_world_here","_law_tape_here","_law_spots_here","_law_pieces","_law_k","_law_hands","_law_p","_law_row","_law_waits","_law_q"]
def bW:aQ ["_law_world_here","_law_tape_here","_law_spots_here","_law_pieces","_law_k","_law_hands","_law_p","_law_row","_law_waits","_law_q"] ["_law_world_here","_law_tape_here"] (aC iY):={}
def aOq(F:Fun K "_law_loose" "_law_loose" iY f fd)(c__law_draw:#v[16])(c__law_spots:⇑2 "_law_spots" ["_law_world_here"] (spV aIq))(T:Txt mg):↥3 f fd ["_law_world_here","_law_tape_here"] (spV aMn):=by
 refine vfn F bW (λcdv A outer s H E hr=>(aD (aZ (i:=2) bW.nd (aL c__law_spots (hr.mono ⋯) rfl (aB (aA 0) aF))) (aD (aZ (i:=3) bW.nd (bL aF)) (aD (cO Bc rfl (eV T.range (aJ (cT oY aGd #v[b] (dC pH zT T.int Pg (aJ (iB (lM (huD hr)) dD (aA 2) (bL aF)) aM))) aM)) (cR (i:=4) bW.nd) (aG (uB 3 (dR (own:=["_law_j"]) (cap:=[("_law_tape_here",1),("_law_spots_here",2)]) (aC iY) vJ rfl rfl (λx h=>aV h) #v[5] rfl (vic (eV T.range (aJ (cT dH fH aH #v[b]) aM))) ↑(aW (i:=0) (~~~["_law_j","_law_tape_here","_law_spots_here"]) rfl (Cv rfl) (Dc rfl)) (bC ⋯) ↑(bH aY bI (aA 2) (aL c__law_draw (hr.mono ⋯) rfl (aB (aA 1) (aB #v[52] aF)))))))) (aD (aM7 (i:=5) (y:="_law_k") bW.nd (aC iY) vJ rfl rfl (λx h=>aV h) #v[5] rfl (vic (eV T.range (aJ (cT dH fH aH #v[b]) aM))) ↑(aW (i:=0) (~~~["_law_k"]) rfl (Cv rfl) (Dc rfl)) (bC ⋯) (λcl C s2 H2 fp=>aD3 dN)) (aD (cO Bc rfl (eV T.range (aJ (aO aK bF T.len Br (aJ (aA 3) aM)) aM)) (cR (i:=6) bW.nd) (aPt 5 7 bW.nd (aL c__law_draw (hr.mono ⋯) rfl (aB (aA 1) (aB (aS7 T.len (aA 5)) aF))) (cT rJ cU (aO aK bF T.len Br (aJ (aA 7) aM)) (cT oY aGd #v[b] (dC pH zT T.int Pg (aJ (iB #v[V] dD #v[b] aH) aM)))) (aA 6) bA)) (aDe 5 (aD (aZ (i:=8) bW.nd (bL aF)) (aD (cO Bc rfl (eV T.range (aJ (cT oY aGd #v[b] (dC pH zT T.int Pg (aJ (iB lF cU (aO aK bF T.len Br (aJ (aA 3) aM)) aH) aM))) aM)) (cR (i:=4) bW.nd) (aD (aZ (i:=6) bW.nd #v[101]) (aD (aZ (i:=9) bW.nd #v[101]) (aG (cB (iD (jA (bK (lM (huD hr)) dD (aA 6) (aA 9)) (fB (bK #v[V] dD #v[b] aH)))) (aG (uB 8 (bH aY bI (bL (aB (dM (aB (aO (aKe rfl) aTp T.max Ui (aJ (aA 6) (aJ (aA 9) aM))) (aB (aO (aLm rfl) aTp T.min boot_min (aJ (aA 6) (aJ (aA 9) aM))) aF))) (aB (dM (aB (aA 6) (aB (aA 9) aF))) aF))) (dC pH zT T.int Pg (aJ (iB #v[V] dD #v[b] aH) aM))))) bA))))) (fO 8 (fO 3 (aG (aU (dM (aB (aA 3) (aB (aA 5) (aB (aA 8) aF))))))))))))))))) ?_;rintro _ R ⟨ns,rs,ys,r,rfl,g,q⟩;have l40:=aAz g.gs;refine#[rfl,ns,rs,ys,r,rfl,g,l40,λs hs=>?_];subst hs;have sl:=zB g.gs (show r<=12 by have:=g.r5;lia);rw[aAo];obtain⟨S,hS⟩:∃S,S=spS ns r.toNat:=#[_,rfl];rw[<-hS]at sl⊢;refine#[9,rfl,⋯,⋯,λm m0 m9=>?_];have kb:∀c:Bool,0<=m*(if c then 1 else 0)/\m*(if c then 1 else 0)<9/\(0<m*(if c then 1 else 0)->c=true):=λc=>by cases c<;>simp<;>lia
 obtain⟨k0,k9,kS⟩:=kb (!#v[25]);have kS:0<m*(if(!#v[25])then 1 else 0)->S≠[]:=λh e=>by
  have:=kS h;rw[e]at this;cases this
 refine#[yZ 37 _,trivial,.inl #[∅,∅],?_];show-(2 ^ 62)<=m*(if(!#v[25])then 1 else 0)/\m*(if(!#v[25])then 1 else 0)<2 ^ 62/\iI (gZ 4) _ _ (gR 0 (m*(if(!#v[25])then 1 else 0)).toNat) [.sh #v[78],.sh .wl,.ow (S.map tkU),.ow [],.no,.no,.no,.no,.no,.no];generalize m*(if(!#v[25])then 1 else 0)=k at*;refine#[∅,∅,?_];refine bG (λl ρ=>∃(ps:#v[88])(a:Sl),l.length+ps.length=k.toNat/\(∀p∈ps,p≠[]/\p.length<=6/\∀q∈p,q∈spS ns r.toNat)/\ρ=[.sh #v[78],.sh .wl,.ow (S.map tkU),.ow (pcU ps),a,.no,.no,.no,.no,.no]) ?_ ?_ #[[],_,by rw[cM];rfl,nofun,rfl]
 rotate_left
 ·rintro u l ρ ⟨ps,a,hl,pg,rfl⟩ ih;rw[Am]at hl;have Sn:=kS ∅;have S0:=List.length_pos_iff.mpr Sn;refine#[by rw[Ab];lia,6,rfl,⋯,⋯,λj j0 j6=>?_];refine#[∅,∅,by rw[cM];lia,?_];refine jB (λu=>∃q∈S,u=tkU q) (λu hu k hk=>?_) λxs xl hx=>?_
  ·refine#[_,rfl,by rw[Ab];lia,by rw[Ab];lia,λi i0 i1=>?_];obtain⟨u,hu,e⟩:=sX i0 i1;obtain⟨q,hq,rfl⟩:=List.mem_map.mp hu;exact#[_,e,hk _ #[q,hq,rfl]]
  ·obtain⟨p,rfl,hp⟩:=wL hx;rw[cM,Ab]at xl;refine ih _ #[ps++[p],.sh u,by rw[Al];simp;lia,λy hy=>?_,?_]
   ·rcases List.mem_append.mp hy with hy|hy
    ·exact pg y hy
    ·rw[List.mem_singleton.mp hy];exact#[λe=>by rw[e]at xl;simp at xl;lia,∅,λq hq=>by rw[<-hS];exact hp q hq]
   ·rw[show pcU (ps++[p])=pcU ps++[.ls (p.map tkU)]from Ca];rfl
 rintro ρ ⟨ps,a,hl,pg,rfl⟩;rw[Kr,Ij]at hl;have p8:ps.length<=8:=by lia
 refine#[4,rfl,⋯,⋯,λh h0 h4=>?_];refine#[∅,∅,by rw[cM];lia,?_];have e1:((gR 0 (1+h).toNat).map λ_=>([]:List U))=(Az (1+h).toNat []).map ntU:=by
  rw[Jf,cM,Lz];rfl
 rw[e1];refine#[by rw[Ab];lia,by rw[Ab];lia,?_];show iI (gZ 6) _ _ (gR 0 (((pcU ps).length:Nat):Int).toNat) [.sh #v[78],.sh .wl,.ow (S.map tkU),.ow (pcU ps),a,.oo (llO ((Az (1+h).toNat []).map ntU)),.no,.no,.no,.no];rw[Bw,Ab,pP];refine bG (λl ρ=>∃(dn rst:List Nat)(hs:#v[d])(b:Sl),l=ntU rst/\dn++rst=Bh ps.length/\hs.length=(1+h).toNat/\hs.flatten.Perm dn/\ρ=[.sh #v[78],.sh .wl,.ow (S.map tkU),.ow (pcU ps),a,.oo (llO (hs.map ntU)),b,.no,.no,.no]) ?_ ?_ #[[],Bh ps.length,Az (1+h).toNat [],_,rfl,rfl,by rw[Dn],by simp,rfl]
 rotate_left
 ·rintro u l ρ ⟨dn,rst,hs,b,el,ed,hl,hp,rfl⟩ ih;cases rst with
  |nil=>cases el
  |cons p rst=>
  cases el;have dl:dn.length<ps.length:=by
   have:=congrArg Eh ed;simp at this
   lia
  refine#[_,rfl,by show 7<10;decide,_,rfl,?_];refine#[_,rfl,by rw[Ab];lia,by rw[Ab];lia,λi i0 i1=>?_];rw[Ab]at i1;obtain⟨i,rfl⟩:=Ei i0;have i1:i<hs.length:=by lia
  have hi:hs[i]? =some hs[i]:=Ag i1;generalize hs[i]=row at hi;have rl:row.length<=dn.length:=by
   have:=(Gp (Ai hi)).length_le;rw[hp.length_eq]at this;exact this
  refine#[i,i,ntU row,rfl,by rw[Ab];exact qI i1,by rw[Ay,hi];rfl,by rw[Ab];lia,?_];refine#[2,rfl,⋯,⋯,λd d0 d2=>#[3,rfl,⋯,⋯,λe e0 e3=>#[trivial,trivial,.inl #[∅,∅],?_]]];have kz:∀c:Bool,∃k:Nat,k<=row.length/\(((ntU row).length:Nat)-d*(if c then 1 else 0)=(k:Int)∨(((ntU row).length:Nat)-d*(if c then 1 else 0)= -1/\ntU row=[])):=λc=>by
   rw[Ab];have dc:d*(if c then 1 else 0)=0∨d*(if c then 1 else 0)=1:=by cases c<;>simp<;>lia
   rcases dc with e|e
   ·exact#[row.length,Aj _,.inl (by rw[e];lia)]
   ·by_cases r0:row=[]
    ·exact#[0,Bg _,.inr #[by rw[e,r0];rfl,by rw[r0];rfl]]
    ·have:=List.length_pos_iff.mpr r0;exact#[row.length-1,∅,.inl (by rw[e];lia)]
  obtain⟨k,hk,hz⟩:=kz (U.eq (.n e) (.n 0));refine#[_,k,rfl,by rw[Ab];exact hk,hz,trivial,ih _ #[dn++[p],rst,hs.set i (row.take k++p::row.drop k),.sh (.n p),rfl,by rw[<-ed];simp,by rw[Bs];exact hl,?_,?_]]
  ·refine(aEp (by have:=Kh (a:=p) (l₁:=row.take k) (l₂:=row.drop k);rwa [Ep]at this) hi).trans ((hp.cons p).trans ?_);exact(List.perm_append_singleton p dn).symm
  ·rw[Qd,show ntU (row.take k++p::row.drop k)=(ntU row).take k++ .n p::(ntU row).drop k by rw[<-Pj, <-Pk];simp];rfl
 rintro ρ ⟨dn,rst,hs,b,el,ed,hl,hp,rfl⟩;obtain rfl:rst=[]:=List.map_eq_nil_iff.mp el.symm;rw[Bb]at ed;subst ed;refine#[_,rfl,?_];rw[show(hs.map ntU).map U.ls=rwU hs by rw[Au];rfl];refine#[7,rfl,⋯,⋯,λm m0 m7=>#[.inl #[∅,∅],?_]];have kb:∀c:Bool,0<=m*(if c then 1 else 0)/\m*(if c then 1 else 0)<7/\(0<m*(if c then 1 else 0)->c=true):=λc=>by cases c<;>simp<;>lia
 obtain⟨k0,k7,kS⟩:=kb (decide ((1:Int)<((pcU ps).length:Nat)));have kS:0<m*(if decide ((1:Int)<((pcU ps).length:Nat))then 1 else 0)->1<ps.length:=λh=>by
  have:=of_decide_eq_true (kS h);rw[Ab]at this
  lia
 show-(2 ^ 62)<=m*(if decide ((1:Int)<((pcU ps).length:Nat))then 1 else 0)/\m*(if decide ((1:Int)<((pcU ps).length:Nat))then 1 else 0)<2 ^ 62/\iI (gZ 4) _ _ (gR 0 (m*(if decide ((1:Int)<((pcU ps).length:Nat))then 1 else 0)).toNat) [.sh #v[78],.sh .wl,.ow (S.map tkU),.ow (pcU ps),a,.sh (.ls (rwU hs)),b,.no,.ow [],.no];generalize m*(if decide ((1:Int)<((pcU ps).length:Nat))then 1 else 0)=k at*;refine#[∅,∅,?_];refine bG (λl ρ=>∃(wt:List Pr)(a b c:Sl),l.length+wt.length<=k.toNat/\Below ps.length wt/\ρ=[.sh #v[78],.sh .wl,.ow (S.map tkU),.ow (pcU ps),a,.sh (.ls (rwU hs)),b,.no,.ow (prU wt),c]) ?_ ?_ #[[],_,_,_,by rw[cM];exact Aj _,nofun,rfl]
 ·rintro ρ ⟨wt,a,b,c,hw,bw,rfl⟩;rw[Kr,Ij]at hw;exact q ps hs wt #[p8,pg,hp,∅,∅,bw,∅]
 ·rintro u l ρ ⟨wt,a,b,c,hw,bw,rfl⟩ ih;rw[Am]at hw;have p1:=kS ∅;refine#[_,rfl,by rw[Ab];lia,by rw[Ab];lia,λx x0 x1=>?_];refine#[_,rfl,by rw[Ab];lia,by rw[Ab];lia,λy y0 y1=>?_];rw[Ab]at x1 y1;obtain⟨x,rfl⟩:=Ei x0;obtain⟨y,rfl⟩:=Ei y0;have x1:x<ps.length:=by lia
  have y1:y<ps.length:=by lia
  refine#[trivial,trivial,λz=>#[λ_=>?_,nofun],λz=>#[8,rfl,⋯,⋯,λe e0 e8=>#[trivial,trivial,λz2=>?_,λz2=>ih _ #[wt,.sh u,.sh (.n x),.sh (.n y),∅,bw,rfl]]]]
  all_goals
   refine#[by rw[Ab];lia,6,rfl,⋯,⋯,λt t0 t6=>#[trivial,trivial,?_]];obtain⟨p,h1,h2,e⟩:=pk (c:=U.eq (.n t) (.n 0)) x1 y1;refine#[_,e,ih _ #[wt++[p],.sh u,.sh (.n x),.sh (.n y),by rw[Al,Dg];lia,λo ho=>?_,?_]]
   ·rcases List.mem_append.mp ho with ho|ho
    ·exact bw o ho
    ·rw[List.mem_singleton.mp ho];exact#[h1,h2]
   ·rw[show prU (wt++[p])=prU wt++[.tp [.n p.1,.n p.2]]from Ca];rfl
section
variable {P:Program}{w:World}{K:Ad}{mg:Str->#v[12]}{base:Heap}{f C:Addr}{fd:FuncData}{N:Cn}{d:Nat}{CG CJ CP:Addr}
def Lp(ls:List Nat)(p:Nat):Nat:=ls.getD p 1
def aWy(h:∀x∈ls,0<x)(p:Nat):0<Lp ls p:=by
 unfold Lp;rw[Bo];cases e:ls[p]? with
 |none=>decide
 |some x=>exact h x (Ai e)
def aVl(h:i<l.length):(ntU l)[i]? =some (.n (Lp l i)):=by
 unfold Lp;rw[Ay,Bo,Ag h];rfl
def tmF(L:Nat->Nat)(E:#v[26]):Int->Option U:=λi=>if i<0 then none else(E i.toNat).map λe:Nat=> .tp [.n ((e:Int)-L i.toNat),.n e]
section
variable {L:Nat->Nat}{E:#v[26]}{t p e:Nat}{A:List Nat}
def wV:tmF L E (p:Int)=(E p).map λe:Nat=> .tp [.n ((e:Int)-L p),.n e]:=by
 unfold tmF;rw[if_neg ∅,Bw]
def pR(h:E p=some e):tmF L E (p:Int)=some (.tp [.n ((e:Int)-L p),.n e]):=by rw[wV,h];rfl
def aC4{i:Int}(h:tmF L E i=some u):∃p e:Nat,i=p/\E p=some e/\u=.tp [.n ((e:Int)-L p),.n e]:=by
 by_cases n:i<0
 ·unfold tmF at h;rw[if_pos n]at h;cases h
 ·obtain⟨p,rfl⟩:=Ei (show 0<=i by lia);rw[wV]at h;obtain⟨e,h1,h2⟩:=Option.map_eq_some_iff.mp h;exact#[p,e,rfl,h1,h2.symm]
def aRh(h:E p=none)(m:p∉A):(λz=>if z=(p:Int)then some (U.tp [.n t,.n ((t:Int)+L p)])else tmF L (begun L E t A) z)=tmF L (begun L E t (A++[p])):=funext λz=>by
 by_cases e:z=(p:Int)
 ·subst e;rw[if_pos rfl,pR (jZ h (by simp))];congr 3
  ·congr 1
   lia
 ·rw[if_neg e];by_cases n:z<0
  ·unfold tmF;rw[if_pos n,if_pos n]
  ·obtain⟨q,rfl⟩:=Ei (show 0<=z by lia);have ne:q≠p:=λx=>e (by rw[x]);show tmF L _ (q:Int)=tmF L _ (q:Int);rw[wV,wV];congr 1;unfold begun;cases E q with
   |some _=>rfl
   |none=>simp[ne]
end
theorem sum_set:∀{l:List Nat}{i k:Nat},l[i]? =some k->(l.set i (k+1)).sum=l.sum+1
 | [],_,_,h=>by cases h
 |a::l,0,_,h=>by
  cases h;rw[List.set_cons_zero,Eg,Eg]
  lia
 |a::l,i+1,k,h=>by
  rw[List.set_cons_succ,Eg,Eg,sum_set (l:=l) h]
  lia
theorem aHa:∀{ats:List Nat}{rs:#v[d]},ats.length=rs.length->(∀(h:Nat) row k,rs[h]? =some row->ats[h]? =some k->k<=row.length)->ats.sum<=rs.flatten.length
 | [],_,_,_=>Bg _
 |k::ats,[],h,_=>by cases h
 |k::ats,row::rs,h,c=>by
  have h1:=c 0 row k rfl rfl;have h2:=aHa (ats:=ats) (rs:=rs) (by simpa using h) λi r j a b=>c (i+1) r j a b;rw[Eg,Dd,Al]
  lia
def aLf{l:List U}(e:u::l=(iK (rwU rs)).drop h):∃row,rs[h]? =some row/\u=.tp [.n h,.ls (ntU row)]/\l=(iK (rwU rs)).drop (h+1)/\h<rs.length:=by
 have hlt:h<(iK (rwU rs)).length:=by
  have:=congrArg Eh e;simp at this
  lia
 have hr:h<rs.length:=by simpa[iK]using hlt
 rw[Fp hlt]at e;cases e;refine#[rs[h],Ag hr,?_,rfl,hr];simp[iK]
def aPg{b:Bool}{K:Sl->Prop}{X cond:Prop}(key:∀fr:Bool,(fr=true↔cond)->K (.sh (.b fr)))(h1:b=true->cond)(h2:b=false->(∀fr:Bool,(fr=true↔cond)->K (.sh (.b fr)))->X):(b=true->K #v[x])/\(b=false->X):=#[λz=>key true #[λ_=>h1 z,λ_=>rfl],λz=>h2 z key]
theorem aHh:∀l:List Pr,l.filterMap (λx=>if p x=true then some (U.n (x.2:Nat))else none)=ntU ((l.filter p).map (·.2))
 | []=>rfl
 |v::l=>by
  by_cases h:p v=true
  ·rw[Fx (by rw[if_pos h]),Hx h,aHh l];rfl
  ·rw[Fy (by rw[if_neg h]),Hy h,aHh l]
def endI(t:Nat):U->Option Int
 |.tp [_,.v (.int e)]=>if(t:Int)<e then some e else none
 |_=>none
theorem aUi:∀l:List Int,U.tts (l.map U.n)
 | []=>trivial
 |_::l=>#[trivial,aUi l]
def aSl{G:List Pr}{E:#v[26]}{L:Nat->Nat}(hL:∀p,0<L p)(hb:Below ls.length G)(sE:∀p e,E p=some e->∃b,e=b+L p/\IsB G E p b)(all:∀p,p<ls.length->E p≠none):∀ws,Stuck G ls.length ws->∀v,v<ls.length->v∈ws.flatten:=by
 intro ws st v hv;apply Cy;intro hn;cases e:E v with
 |none=>exact all v hv e
 |some x=>
  refine aFg hL sE (λx=>x<ls.length/\x∉ws.flatten) (λp hp=>?_) x v e #[hv,hn];obtain⟨m,h1,h2⟩:=st p hp.1 hp.2;exact#[m,h1,(hb _ h1).2,h2]
structure GoodC(ls:List Nat)(hs:#v[d])(wt:List Pr):Prop where
 n64:ls.length<64
 sh:Shared hs ls.length
 h4:hs.length<=4
 wk:Below ls.length wt
 wl:wt.length<=400
 ps:∀x∈ls,0<x/\x<=1000
def NoR(ls:List Nat)(hs:#v[d])(wt:List Pr):Prop:=∀ws,Stuck (wt++bU hs) ls.length ws->∀v,v<ls.length->v∈ws.flatten
def aPh:Fv:=λus R=>∃ls wt hs,us=[.ls (ntU ls),.ls (prU wt),.ls (rwU hs)]/\GoodC ls hs wt/\R (.sh .no)/\(NoR ls hs wt->∀l,R (.ow l))
abbrev mQ:List Str:=["_law_lasts","_law_pairs","_law_rows","_law_at","_law_times","_law_now","_law_hand","_law_row","_law_free","_law_piece"]
def cV:aQ ["_law_lasts","_law_pairs","_law_rows","_law_at","_law_times","_law_now","_law_hand","_law_row","_law_free","_law_piece"] ["_law_lasts","_law_pairs","_law_rows"] (aC fJ):={}
def aMd(F:Fun K "_law_clock" "_law_clock" fJ f fd)(T:Txt mg):↥1 f fd ["_law_lasts","_law_pairs","_law_rows"] (spV aPh):=by
 refine vfn F cV (λcdv A outer s H E hr=>(aD (aMv (i:=3) (own:=["_law_row"]) (cap:=[]) cV.nd (aC fJ) mQ rfl rfl (λx h=>aV h) #v[5] rfl (vic (aX (aA 2))) ↑(aW (i:=0) (~~~["_law_row"]) rfl (Cv rfl) (Dc rfl)) (bC ⋯) (λcl C s2 H2 fp=>aH)) (aD (aZ (i:=4) cV.nd aS8) (aD (aZ (i:=5) cV.nd aH) (aD (aEu Bc (yP (aA 5)) (aD (cO Bc rfl (aD8 T.enumerate (aB (aA 2) aF)) (qL rfl (cF (i:=6) cV.nd (cF (i:=7) cV.nd mF))) (aD (aZ (i:=8) cV.nd (bAc (iB #v[V] dD (bH aY bI (aA 3) (aA 6)) aH) (lO (iB aAc cU (bH aY bI (aOp hr (aA 4) (bH aY bI (aA 7) (cT rJ cU (bH aY bI (aA 3) (aA 6)) aH))) aH) (aA 5))))) (aG (cB (iD (aPo (cI (aA 8)) (aIw (bK aGa cU (bH aY bI (aA 3) (aA 6)) (aO aK bF T.len Br (aJ (aA 7) aM)))))) (aD (aZ (i:=9) cV.nd (bH aY bI (aA 7) (bH aY bI (aA 3) (aA 6)))) (aG (cB (bK #v[V] dD (aD0 (own:=["_law_p","_law_q"]) (cap:=[("_law_times",4),("_law_now",5),("_law_piece",9)]) (aC fJ) mQ rfl rfl (λx h=>aV h) #v[5] rfl (vic (aX (aA 1))) ↑(xP rfl (fZ (aW (i:=0) (~~~["_law_p","_law_q","_law_times","_law_now","_law_piece"]) rfl (Cv rfl) (Dc rfl)) (fZ (aW (i:=1) (~~~["_law_p","_law_q","_law_times","_law_now","_law_piece"]) rfl (Cv rfl) (Dc rfl)) tD))) (aAd (is:=[0,1]) rfl ⋯) ↑(iD (aPo (bK #v[V] dD (aA 0) (aA 4)) (aIw (iD (jA (aVk hr (aA 1) (aA 2)) (fB (bK lF cU (bH aY bI (aOp hr (aA 2) (aA 1)) aH) (aA 3)))))))) ↑(aA 1)) (bL aF)) (aD (aRc 4 hr (aA 9) (dM (aB (aA 5) (aB (cT dH fH (aA 5) (bH aY bI (aA 0) (aA 9))) aF)))) (aG (zF 3 (aA 6) (cT dH fH (bH aY bI (aA 3) (aA 6)) aH)))) bA))) bA)))) (aG (aZ (i:=5) cV.nd (aTk rfl T.min (aJ (aWz (P:=P) (w:=w) 4 (aD0 (own:=["_law_pair"]) (cap:=[("_law_now",5)]) (aC fJ) mQ rfl rfl (λx h=>aV h) #v[5] rfl (vic (aJb (P:=P) (w:=w) rfl rfl (aA 4))) ↑(aW (i:=0) (~~~["_law_pair","_law_now"]) rfl (Cv rfl) (Dc rfl)) (bC ⋯) ↑(bK lF cU #v[t] (aA 1)) ↑#v[t])) aM) rM))))) (aD (cB (bK aGa cU (aQl T.len (aA 4)) #v[a]) (aG (aU rM)) bA) (aG (aU (dR (own:=["_law_piece"]) (cap:=[("_law_times",4)]) (aC fJ) mQ rfl rfl (λx h=>aV h) #v[5] rfl (vic (eV T.range (aJ #v[a] aM))) ↑(aW (i:=0) (~~~["_law_piece","_law_times"]) rfl (Cv rfl) (Dc rfl)) (bC ⋯) ↑(aOp hr (aA 1) (aA 0))))))))))) ?_;rintro _ R ⟨ls,wt,hs,rfl,g,q0,q⟩;have n64:=g.n64;have h4:=g.h4;have hL:=aWy λx hx=>(g.ps x hx).1;have hb:Below ls.length (wt++bU hs):=λp hp=>#v[74].elim (g.wk p) (aA0 g.sh p);have nd:hs.flatten.Nodup:=g.sh.nodup_iff.mpr Fh;have low:∀p∈hs.flatten,p<ls.length:=λp hp=>List.mem_range.mp (g.sh.subset hp);have cov:∀p,p<ls.length->p∈hs.flatten:=λp hp=>g.sh.symm.subset (List.mem_range.mpr hp);have fl:hs.flatten.length=ls.length:=by have:=g.sh.length_eq;rwa [Cw]at this
 refine#[rfl,by rw[Ab];lia,eE (B:=λ_:List Nat=>some (U.n 0)) (λrow _ k hk=>hk) ?_];rw[Bd,Cu,Jf];have ez:Az hs.length (U.n 0)=ntU (Az hs.length 0):=by
  show _=Up (λn:Nat=>U.n n) _;rw[Lz];rfl
 rw[ez];have cur0:Cur hs (Az hs.length 0) (λ_=>none):=by
  refine#[by rw[Dn],λh row k g1 g2=>?_,λh row k g1 g2 j q g3=>?_]
  ·have:=Pd (Ai g2)
   lia
  ·have:=Pd (Ai g2);exact#[λz=>absurd rfl z,λz=>by lia]
 have e0:(λ_=>none:Int->Option U)=tmF (Lp ls) λ_=>none:=funext λz=>by unfold tmF;split<;>rfl
 refine#[λm ρ=>∃(ats:List Nat)(E:#v[26])(s5 a b c d:Sl),ρ=[.sh (.ls (ntU ls)),.sh (.ls (prU wt)),.sh (.ls (rwU hs)),.ow (ntU ats),.oo (ndO (tmF (Lp ls) E) ats.sum),s5,a,b,c,d]/\Cur hs ats E/\((∃t:Nat,s5=.sh (.n t)/\aL2 ls.length (wt++bU hs) (Lp ls) E t/\m=left ls.length E t+1)∨(s5=.sh .no/\m=0/\(∀p e,E p=some e->p<ls.length)/\∀p e,E p=some e->∃b,e=b+Lp ls p/\IsB (wt++bU hs) E p b)),#[_,Az hs.length 0,λ_=>none,.sh (.n 0),_,_,_,_,by rw[<-e0,show(Az hs.length 0).sum=0 by simp];rfl,cur0,.inl #[0,rfl,aHd,rfl]],?_];rintro m ρ ⟨ats,E,s5,a,b,c,d,rfl,cur,alt⟩;rcases alt with ⟨t,rfl,ci,rfl⟩|⟨rfl,rfl,dom,sys⟩
 ·refine#[λ_=>?_,nofun];show iI (aJx [6,7]) _ _ (iK (rwU hs)) [.sh (.ls (ntU ls)),.sh (.ls (prU wt)),.sh (.ls (rwU hs)),.ow (ntU ats),.oo (ndO (tmF (Lp ls) E) ats.sum),.sh (.n t),a,b,c,d];refine bG (λl ρ=>∃(h:Nat)(A ats:List Nat)(a b c d:Sl),l=(iK (rwU hs)).drop h/\h<=hs.length/\HSt ls.length (wt++bU hs) (Lp ls) E t hs h A ats/\ρ=[.sh (.ls (ntU ls)),.sh (.ls (prU wt)),.sh (.ls (rwU hs)),.ow (ntU ats),.oo (ndO (tmF (Lp ls) (begun (Lp ls) E t A)) ats.sum),.sh (.n t),a,b,c,d]) ?_ ?_ #[0,[],ats,a,b,c,d,rfl,Bg _,HSt.start cur,by rw[aB9]]
  rotate_left
  ·rintro u l ρ ⟨h,A,ats,a,b,c,d,el,hle,st,rfl⟩ ih;obtain⟨row,hr1,eu,hl,hlt⟩:=aLf el;subst eu;obtain⟨k,hk⟩:∃k,ats[h]? =some k:=#[_,Ag (by rw[st.cur.len];exact hlt)];have hkU:(ntU ats)[h]? =some (.n k):=by rw[Ay,hk];rfl
   have kle:=st.cur.le h row k hr1 hk;have hG:∀p q,(p,q)∈bU hs->(p,q)∈wt++bU hs:=λp q m=>Ax _ m;have skip:∀a b c d:Sl,(∀p,row[k]? =some p->¬Rdy (wt++bU hs) E t p)->_:=λa b c d no=>ih _ #[h+1,A,ats,a,b,c,d,hl,hlt,st.skip nd hG hr1 hk no,rfl];refine#[rfl,_,bQ hkU,trivial,trivial,aPg (cond:=k=0∨∃q e,row[k-1]? =some q/\begun (Lp ls) E t A q=some e/\e<=t) (λfr hf=>?_) (λz=>?_) λz key=>?_]
   rotate_left
   ·have z:U.eq (.n (k:Nat)) (.n ((0:Nat):Int))=true:=z;rw[mX]at z;exact .inl (of_decide_eq_true z)
   ·have z:U.eq (.n (k:Nat)) (.n ((0:Nat):Int))=false:=z;rw[mX]at z;have k0:=of_decide_eq_false z;have hq:row[k-1]? =some (row[k-1]'∅):=Ag ∅;generalize row[k-1]'∅=q at hq;cases he:begun (Lp ls) E t A q with
    |none=>exact absurd he ((st.cur.beg h row k hr1 hk (k-1) q hq).mpr ∅)
    |some e=>
     have ek:(k:Int)-1=((k-1:Nat):Int):=by lia
     refine#[_,_,.inl rfl,_,bQ hkU,_,?_,_,_,rfl,pR he,_,rfl,key _ ?_]
     ·show atI (ntU row) ((k:Int)-1)=some (.n q);rw[ek];exact bQ (by rw[Ay,hq];rfl)
     ·rw[decide_eq_true_iff];constructor
      ·exactλl=> .inr #[q,e,hq,he,∅]
      ·rintro(l|⟨q',e',h1,h2,h3⟩)
       ·lia
       ·rw[hq]at h1;cases h1;rw[he]at h2;cases h2
        lia
   have rdy:=λpc(h3:row[k]? =some pc)=>st.ready hL nd hr1 hk h3;refine#[λz=>#[_,bQ hkU,λz2=>?_,λz2=>?_],λz=>?_]
   rotate_left
   ·have z2:=of_decide_eq_false z2;rw[Ab]at z2;exact skip (.sh (.n h)) (.sh (.ls (ntU row))) (.sh (.b fr)) d λp hp=>absurd (List.getElem?_eq_some_iff.mp hp).1 ∅
   ·refine#[nofun,λ_=>skip (.sh (.n h)) (.sh (.ls (ntU row))) (.sh (.b fr)) d λp hp r=>?_];have z:fr=false:=z;have:=hf.mpr ((rdy p hp).mp r).2;rw[z]at this;cases this
   have z:fr=true:=z;have z2:=of_decide_eq_true z2;rw[Ab]at z2;have hpc:row[k]? =some (row[k]'∅):=Ag ∅;generalize row[k]'∅=pc at hpc;have pcn:pc<ls.length:=low pc (List.mem_flatten.mpr #[row,Ai hr1,Ai hpc]);have wl:=g.wl;let bad:Pr->Bool:=λp=>decide (p.1=pc) && !(match begun (Lp ls) E t A p.2 with|some e=>decide (e<=t)|none=>false);have rd:Rdy (wt++bU hs) E t pc↔wt.filter bad=[]:=by
    rw[rdy pc hpc,List.filter_eq_nil_iff];constructor
    ·rintro⟨r,_⟩ p hp hbad;obtain⟨b1,b2⟩:=Bool.and_eq_true_iff.mp hbad;obtain⟨e,e1,e2⟩:=r p.2 (by rw[<-of_decide_eq_true b1];exact hp);rw[e1]at b2;have b2:(!decide (e<=t))=true:=b2;rw[decide_eq_true e2]at b2;cases b2
    ·intro no;refine#[λq m=>?_,hf.mp z];have:=no _ m;cases he:begun (Lp ls) E t A q with
     |none=>exact absurd (by show(decide (pc=pc) && !(match begun (Lp ls) E t A q with|some e=>decide (e<=t)|none=>false))=true;rw[he,decide_eq_true rfl];rfl) this
     |some e=>
      refine#[e,rfl,?_];apply Cy;intro l;exact this (by show(decide (pc=pc) && !(match begun (Lp ls) E t A q with|some e=>decide (e<=t)|none=>false))=true;rw[he,decide_eq_true rfl];simp;lia)
   refine#[_,bQ hkU,_,bQ (show(ntU row)[k]? =some (.n pc) by rw[Ay,hpc];rfl),?_];refine#[by rw[Ab];lia,eE (B:=λp:Pr=>if bad p=true then some (U.n (p.2:Nat))else none) (λp hp k hk=>?_) ?_]
   ·cases h1:decide (p.1=pc)with
    |false=>
     have hb0:bad p=false:=by show(decide (p.1=pc) && _)=false;rw[h1];rfl
     rw[if_neg (by rw[hb0];decide)]at hk;refine#[rfl,trivial,trivial,λz=>?_,λ_=>#[nofun,λ_=>hk]];have z:U.eq (.n (p.1:Nat)) (.n (pc:Nat))=true:=z;rw[mX,h1]at z;cases z
    |true=>
     refine#[rfl,trivial,trivial,λ_=>?_,λz=>?_]
     ·cases he:begun (Lp ls) E t A p.2 with
      |none=>
       have hb1:bad p=true:=by show(decide (p.1=pc) && !(match begun (Lp ls) E t A p.2 with|some e=>decide (e<=t)|none=>false))=true;rw[h1,he];rfl
       rw[if_pos hb1]at hk;refine#[_,_,_,.inl rfl,rfl,λ_=>#[λ_=>hk,nofun],λz=>?_];have z:(!(tmF (Lp ls) (begun (Lp ls) E t A) (p.2:Nat)).isSome)=false:=z;rw[wV,he]at z;cases z
      |some e=>
       have hb1:bad p= !decide (e<=t):=by show(decide (p.1=pc) && !(match begun (Lp ls) E t A p.2 with|some e=>decide (e<=t)|none=>false))=_;rw[h1,he];rfl
       refine#[_,_,_,.inl rfl,rfl,λz=>?_,λ_=>#[_,_,.inl rfl,_,_,rfl,pR he,_,rfl,λz=>?_,λz=>?_]]
       ·have z:(!(tmF (Lp ls) (begun (Lp ls) E t A) (p.2:Nat)).isSome)=true:=z;rw[pR he]at z;cases z
       ·have z:=of_decide_eq_true z;rw[if_pos (by rw[hb1];simp;lia)]at hk;exact hk
       ·have z:=of_decide_eq_false z;rw[if_neg (by rw[hb1];simp;lia)]at hk;exact hk
     ·have z:U.eq (.n (p.1:Nat)) (.n (pc:Nat))=false:=z;rw[mX,h1]at z;cases z
   rw[Bd,aHh];have ew:U.eq (.ls (ntU ((wt.filter bad).map (·.2)))) (.ls [])=decide ((wt.filter bad).map (·.2)=[]):=aD6 _ [];refine#[aAr 39 _,trivial,λz=>?_,λz=>?_]
   rotate_left
   ·have z:U.eq (.ls (ntU ((wt.filter bad).map (·.2)))) (.ls [])=false:=z;rw[ew]at z;refine skip (.sh (.n h)) (.sh (.ls (ntU row))) (.sh (.b fr)) (.sh (.n pc)) λp hp r=>?_;rw[hpc]at hp;cases hp;exact of_decide_eq_false z (by rw[rd.mp r];rfl)
   ·have z:U.eq (.ls (ntU ((wt.filter bad).map (·.2)))) (.ls [])=true:=z;rw[ew]at z;have rr:=rd.mpr (List.map_eq_nil_iff.mp (of_decide_eq_true z));obtain⟨_,n1,n2⟩:=st.next nd hr1 hk (Aj k) hpc;have sl:=aHa st.cur.len st.cur.le;have hlt2:h<(ntU ats).length:=by rw[Ab,st.cur.len];exact hlt
    refine#[_,bQ (aVl pcn),_,_,rfl,∅,_,rfl,?_];refine#[_,bQ hkU,h,h,rfl,qI hlt2,ih _ #[h+1,A++[pc],ats.set h (k+1),.sh (.n h),.sh (.ls (ntU row)),.sh (.b fr),.sh (.n pc),hl,hlt,st.go nd low hG hr1 hk hpc rr,?_]];rw[sum_set hk, <-aRh n1 n2,show ntU (ats.set h (k+1))=(ntU ats).set h (.n ((k:Int)+1))from Qd ..];rfl
  rintro ρ ⟨h,A,ats,a,b,c,d,el,hle,st,rfl⟩;obtain rfl:h=hs.length:=by
   have:=congrArg Eh el;simp[iK]at this
   lia
  obtain⟨hA,all⟩:=st.end cov;have dom:∀p e,begun (Lp ls) E t A p=some e->p<ls.length:=λp e h=>by
   rcases lG h with h|⟨_,m,_⟩
   ·exact ci.dom p e h
   ·exact(hA p m).1
  have sl:=aHa st.cur.len st.cur.le;refine#[_,_,.inl rfl,λi u hu=>?_,[.no,.no,.no,.no,.no,.sh (.n t),.no,.no,.no,.no],.no (.no (.no (.no (.no (.sh trivial (.no (.no (.no (.no .nil))))))))),λd ob hu us u1 u2 u3=>?_]
  ·obtain⟨p,e,_,_,rfl⟩:=aC4 hu;exact#[trivial,trivial,trivial]
  refine#[_,_,_,_,rfl,∅,sO (h:=λu=>(endI t u).map U.n) (λu hu k hk=>?_) ?_]
  ·obtain⟨i,hi⟩:=u1 u hu;obtain⟨p,e,_,_,rfl⟩:=aC4 hi;have hk:k ((if(t:Int)<(e:Nat)then some ((e:Nat):Int)else none).map U.n):=hk;refine#[_,rfl,λz=>?_,λz=>?_]
   ·have z:=of_decide_eq_true z;rw[if_pos z]at hk;exact#[_,rfl,hk]
   ·have z:=of_decide_eq_false z;rw[if_neg z]at hk;exact hk
  rw[Bd, <-Rn];refine#[aUi _,_,rfl,λe0=>?_,λm hm hx=>?_]
  ·exact#[0,∅,ats,begun (Lp ls) E t A,.sh .no,a,b,c,_,rfl,st.cur,.inr #[rfl,rfl,dom,aCa hL ci hA]]
  ·obtain⟨u,hu,hm⟩:=List.mem_filterMap.mp hm;obtain⟨i,hi⟩:=u1 u hu;obtain⟨p,t2,_,he,rfl⟩:=aC4 hi;have hm:(if(t:Int)<(t2:Nat)then some ((t2:Nat):Int)else none)=some m:=hm;by_cases l:(t:Int)<(t2:Nat)
   ·rw[if_pos l]at hm;cases hm;have nx:∀p e,begun (Lp ls) E t A p=some e->t<e->t2<=e:=λp e h l2=>by
     have:=hx e (List.mem_filterMap.mpr #[_,u2 _ _ (pR h),by show(if(t:Int)<(e:Nat)then some ((e:Nat):Int)else none)=_;rw[if_pos ∅]])
     lia
    exact#[left ls.length (begun (Lp ls) E t A) t2+1,by have:=aLw (show t<t2 by lia) (dom p t2 he) he;lia,ats,begun (Lp ls) E t A,.sh (.n t2),a,b,c,_,rfl,st.cur,.inl #[t2,rfl,aLa hL ci hA all ∅ nx,rfl]]
   ·rw[if_neg l]at hm;cases hm
 ·refine#[nofun,λ_=>#[_,_,rfl,λks kn km=>#[λ_=>q0,λz=>?_]]];have z:=of_decide_eq_false z;rw[Ab]at z;have ek:ks=(ks.map Ik).map λn:Nat=>(n:Int):=by
   rw[Au]
   conv=>lhs;rw[<-Je ks]
   refine Jg λi hi=>?_;cases hf:tmF (Lp ls) E i with
   |none=>exact absurd hf ((km i).mp hi)
   |some u=>
    obtain⟨p,e,rfl,_⟩:=aC4 hf;rfl
  have kl:(ks.map Ik).length=ks.length:=Ab ..;have kb:∀p,p∈ks.map Ik↔E p≠none:=λp=>by
   have:p∈ks.map Ik↔(p:Int)∈ks:=by
    conv=>rhs;rw[ek]
    constructor
    ·exactλh=>List.mem_map.mpr #[p,h,rfl]
    ·intro h;obtain⟨x,hx,e⟩:=List.mem_map.mp h;rw[show p=x by lia];exact hx
   rw[this,km,wV];cases E p<;>simp
  have kn2:(ks.map Ik).Nodup:=by
   rw[ek]at kn;exact Mw _ (λa b h e=>h (by rw[e])) kn
  have all:=cover kn2 (λp hp=>by
   cases e:E p with
   |none=>exact absurd e ((kb p).mp hp)
   |some x=>exact dom p x e) (show ls.length<=(ks.map Ik).length by lia)
  have all:∀p,p<ls.length->E p≠none:=λp hp=>(kb p).mp (all p hp);refine#[by rw[Ab];lia,by rw[Ab];lia,by rw[cM];rw[Ab];lia,jB (λ_=>True) (λu hu k hk=>?_) λxs _ _=>q (aSl hL hb sys all) xs];rw[Ab,Bw,pP]at hu;obtain⟨p,hp,rfl⟩:=List.mem_map.mp hu;cases e:E p with
  |none=>exact absurd e (all p (List.mem_range.mp hp))
  |some x=>exact#[_,_,.inl rfl,_,_,rfl,pR e,hk _ trivial]
end
def aG3{l:List U}(e:u::l=(iK (ntU rs)).drop h):∃row,rs[h]? =some row/\u=.tp [.n h,.n row]/\l=(iK (ntU rs)).drop (h+1)/\h<rs.length:=by
 have hlt:h<(iK (ntU rs)).length:=by
  have:=congrArg Eh e;simp at this
  lia
 have hr:h<rs.length:=by simpa[iK]using hlt
 rw[Fp hlt]at e;cases e;refine#[rs[h],Ag hr,?_,rfl,hr];simp[iK]
def aOt{b:Bool}{K:EV->Prop}{X:Prop}{ρ:EV}{good:EV->Prop}(key:∀ρ',good ρ'->K ρ')(h1:b=true->(∀ρ',good ρ'->K ρ')->X)(h2:b=false->good ρ):(b=true->X)/\(b=false->K ρ):=#[λz=>h1 z key,λz=>key _ (h2 z)]
theorem aN3{ts:List Pr}{pc:Nat}:∀l:List Pr,l.filterMap (λp=>if decide (p.1=pc)=true then some (U.n ((ts.getD p.2 (0,0)).2:Nat))else none)=ntU ((l.filter λp=>decide (p.1=pc)).map λp=>(ts.getD p.2 (0,0)).2)
 | []=>rfl
 |v::l=>by
  by_cases h:decide (v.1=pc)=true
  ·rw[Fx (by rw[if_pos h]),Hx (p:=λp:Pr=>decide (p.1=pc)) h,aN3 l];rfl
  ·rw[Fy (by rw[if_neg h]),Hy (p:=λp:Pr=>decide (p.1=pc)) h,aN3 l]
def aI3(P:Program)(w:World)(CP:Addr):Fv:=λus R=>∃j ps hs wt sl ts,us=[aDc P w CP j ps hs wt sl,.ls (prU ts)]/\GoodW (lens ps) hs wt/\Sys (wt++bU hs) (lens ps) ts/\R #v[x]
abbrev tW:List Str:=["_law_paper","_law_times","_law_counts","_law_row","_law_k","_law_piece","_law_begin","_law_end","_law_marks"]
def cX:aQ ["_law_paper","_law_times","_law_counts","_law_row","_law_k","_law_piece","_law_begin","_law_end","_law_marks"] ["_law_paper","_law_times"] (aC iG):={}
def aLv(F:Fun K "_law_steady" "_law_steady" iG f fd)(cQ:Cfl K CP pNm)(T:Txt mg):↥1 f fd ["_law_paper","_law_times"] (spV (aI3 P w CP)):=by
 refine vfn F cX (λcdv A outer s H E hr=>(aD (aMv (i:=2) (own:=["_law_piece"]) (cap:=[]) cX.nd (aC iG) tW rfl rfl (λx h=>aV h) #v[5] rfl (vic (aX (dW cQ (aA 0)))) ↑#v[89] (bC ⋯) ↑#v[a]) (aD (cO Bc rfl (aX (dW cQ (aA 0))) (cR (i:=3) cX.nd) (aG (cO Bc rfl (aD8 T.enumerate (aB (aA 3) aF)) (qL rfl (cF (i:=4) cX.nd (cF (i:=5) cX.nd mF))) (aD (aG9 (bH aY bI (aA 1) (aA 5)) (qL rfl (cF (i:=6) cX.nd (cF (i:=7) cX.nd mF)))) (aD (aZ (i:=8) cX.nd (cT dH fH (bL (aB aH aF)) (aD0 (own:=["_law_p","_law_q"]) (cap:=[("_law_times",1),("_law_piece",5)]) (aC iG) tW rfl rfl (λx h=>aV h) #v[5] rfl (vic (aX (dW cQ (aA 0)))) ↑(xP rfl (fZ (aW (i:=0) (~~~["_law_p","_law_q","_law_times","_law_piece"]) rfl (Cv rfl) (Dc rfl)) (fZ (aW (i:=1) (~~~["_law_p","_law_q","_law_times","_law_piece"]) rfl (Cv rfl) (Dc rfl)) tD))) (aAd (is:=[0,1]) rfl ⋯) ↑(bK #v[V] dD (aA 0) (aA 3)) ↑(bH aY bI (bH aY bI (aA 2) (aA 1)) aH)))) (aD (cB (bK lF cU (aA 4) aH) (aG (uB 8 (bH aY bI (bH aY bI (aA 1) (bH aY bI (aA 3) (cT rJ cU (aA 4) aH))) aH))) bA) (aG (cB (iD (jA (bK (lM (huD hr)) dD (aA 6) (aO (aB0 rfl) aJn T.max Ui (aJ (aA 8) aM))) (fB (bK (lM (huD hr)) dD (aA 7) (cT dH fH (aA 6) (bH aY bI (aA 2) (aA 5))))))) #v[61] bA)))))))) #v[61]))) ?_;rintro _ R ⟨j,ps,hs,wt,sl,ts,rfl,g,sy,q⟩;have pl:=g.n64;rw[Ab]at pl;have wl:=g.wl;have tl:ts.length=ps.length:=by have:=sy.len;rwa [Ab]at this
 have nd:hs.flatten.Nodup:=g.sh.nodup_iff.mpr Fh;have low:∀p∈hs.flatten,p<ps.length:=λp hp=>by have:=List.mem_range.mp (g.sh.subset hp);rwa [Ab]at this
 refine#[rfl,rfl,aCn #[by rw[Ab];lia,eE (B:=λp:List Tk=>some (U.n (p.length:Nat))) (λp hp k hk=>?_) ?_]]
 ·show k #v[95];rw[Ab];exact hk
 rw[Bd,Cu, <-aCs];refine#[rfl,aGo ?_];show iI (gZ 3) _ _ (rwU hs) [.sh (aDc P w CP j ps hs wt sl),.sh (.ls (prU ts)),.ow (ntU (lens ps)),.no,.no,.no,.no,.no,.no];refine bG (λl ρ=>∃(dn rst:#v[d])(a b c d e f:Sl),l=rwU rst/\dn++rst=hs/\ρ=[.sh (aDc P w CP j ps hs wt sl),.sh (.ls (prU ts)),.ow (ntU (lens ps)),a,b,c,d,e,f]) ?_ ?_ #[[],hs,_,_,_,_,_,_,rfl,rfl,rfl]
 ·rintro ρ ⟨dn,rst,a,b,c,d,e,f,el,ed,rfl⟩;exact q
 rintro u l ρ ⟨dn,rst,a,b,c,d,e,f,el,ed,rfl⟩ ih;cases rst with
 |nil=>cases el
 |cons row rst=>
 cases el;have hi:hs[dn.length]? =some row:=by rw[<-ed];simp
 show iI (aJx [4,5]) _ _ (iK (ntU row)) [.sh (aDc P w CP j ps hs wt sl),.sh (.ls (prU ts)),.ow (ntU (lens ps)),.sh (.ls (ntU row)),b,c,d,e,f];refine bG (λl ρ=>∃(k:Nat)(b c d e f:Sl),l=(iK (ntU row)).drop k/\ρ=[.sh (aDc P w CP j ps hs wt sl),.sh (.ls (prU ts)),.ow (ntU (lens ps)),.sh (.ls (ntU row)),b,c,d,e,f]) ?_ ?_ #[0,b,c,d,e,f,rfl,rfl]
 ·rintro ρ ⟨k,b,c,d,e,f,el,rfl⟩;exact ih _ #[dn++[row],rst,_,_,_,_,_,_,rfl,by rw[<-ed];simp,rfl]
 rintro u l ρ ⟨k,b,c,d,e,f,el,rfl⟩ ih2;obtain⟨pc,hk,rfl,hl,hlt⟩:=aG3 el;have pcn:pc<ps.length:=low pc (List.mem_flatten.mpr #[row,Ai hi,Ai hk]);obtain⟨s1,s2⟩:=sy.sys pc (by rw[Ab];exact pcn);have hp:=xG (ts:=ts) (i:=pc) ∅;refine#[rfl,_,bQ hp,rfl,?_];refine#[rfl,aGb #[by rw[Ab];lia,eE (B:=λp:Pr=>if decide (p.1=pc)=true then some (U.n ((ts.getD p.2 (0,0)).2:Nat))else none) (λp hp k hk=>?_) ?_]]
 ·have q2:p.2<ps.length:=by have:=(g.wk p hp).2;rwa [Ab]at this
  refine#[rfl,trivial,trivial,λz=>#[_,bQ (xG ∅),_,rfl,?_],λz=>?_]
  ·have z:U.eq (.n (p.1:Nat)) (.n (pc:Nat))=true:=z;rw[mX]at z;rw[if_pos z]at hk;exact hk
  ·have z:U.eq (.n (p.1:Nat)) (.n (pc:Nat))=false:=z;rw[mX]at z;rw[if_neg (by rw[z];decide)]at hk;exact hk
 rw[Bd,aN3];have hrow:∀q,(pc,q)∈bU hs↔0<k/\row[k-1]? =some q:=λq=>by
  rw[gK];constructor
  ·rintro⟨i,j,row',h1,h2,h3⟩;obtain⟨e1,e2⟩:=kJ nd hi h1 hk h2;rw[<-e1,hi]at h1;cases h1;exact#[∅,by rw[show k-1=j by lia];exact h3]
  ·rintro⟨h1,h2⟩;exact#[dn.length,k-1,row,hi,by rw[show k-1+1=k by lia];exact hk,h2]
 have ml:((wt.filter λp=>decide (p.1=pc)).map λp=>(ts.getD p.2 (0,0)).2).length<=wt.length:=by rw[Ab];exact Ks ..
 have mm:∀x,x∈((wt.filter λp=>decide (p.1=pc)).map λp=>(ts.getD p.2 (0,0)).2)↔ ∃q,(pc,q)∈wt/\(ts.getD q (0,0)).2=x:=λx=>by
  rw[List.mem_map];constructor
  ·rintro⟨p,hp,rfl⟩;obtain⟨h1,h2⟩:=List.mem_filter.mp hp;exact#[p.2,by rw[<-of_decide_eq_true h2];exact h1,rfl]
  ·rintro⟨q,h1,rfl⟩;exact#[(pc,q),List.mem_filter.mpr #[h1,decide_eq_true rfl],rfl]
 generalize ((wt.filter λp=>decide (p.1=pc)).map λp=>(ts.getD p.2 (0,0)).2)=M at ml mm;refine#[by show 1+(ntU M).length<=10000;rw[Ab];lia,aOt (good:=λρ'=>∃Ms:List Nat,Ms.length<=1000/\(∀x,x∈Ms↔x=0∨∃q,(pc,q)∈wt++bU hs/\(ts.getD q (0,0)).2=x)/\ρ'=[.sh (aDc P w CP j ps hs wt sl),.sh (.ls (prU ts)),.ow (ntU (lens ps)),.sh (.ls (ntU row)),.sh (.n k),.sh (.n pc),.sh (.n #v[40].1),.sh (.n #v[40].2),.ow (ntU Ms)]) ?_ ?_ ?_]
 ·rintro ρ' ⟨Ms,m1,m2,rfl⟩;have bM:#v[40].1∈Ms:=(m2 _).mpr (s2.2.imp id λ⟨q,h1,h2⟩=>#[q,h1,Bi h2]);have bX:∀x∈Ms,x<=#v[40].1:=λx hx=>by
   rcases (m2 x).mp hx with rfl|⟨q,h1,rfl⟩
   ·exact Bg _
   ·obtain⟨e,h2,h3⟩:=s2.1 q h1;cases h2;exact h3
  refine#[Ms.map λn:Nat=>(n:Int),(by rw[Au];rfl),(λe=>by rw[List.map_eq_nil_iff.mp e]at bM;cases bM),λm hm hx=>?_];obtain⟨x,hx1,rfl⟩:=List.mem_map.mp hm;obtain rfl:x=#v[40].1:=by
   have h1:=bX x hx1;have h2:=hx _ (List.mem_map.mpr #[_,bM,rfl])
   lia
  refine#[trivial,trivial,λz=>?_,λz=>#[_,bQ (aD7 (by rw[Ab];exact pcn)),trivial,trivial,λz=>?_,λz=>?_]]
  ·have z:(!(U.eq (.n (#v[40].1:Nat)) (.n (#v[40].1:Nat))))=true:=z;rw[mX,decide_eq_true rfl]at z;cases z
  ·have z:(!(U.eq (.n (#v[40].2:Nat)) (.n ((#v[40].1:Nat)+(Lf (lens ps) pc:Nat):Int))))=true:=z;rw[show((#v[40].1:Nat)+(Lf (lens ps) pc:Nat):Int)=((#v[40].1+Lf (lens ps) pc:Nat):Int) by lia,mX,decide_eq_true s1]at z;cases z
  ·exact ih2 _ #[k+1,_,_,_,_,_,hl,rfl]
 ·intro z key;have z:=of_decide_eq_true z;have hq:row[k-1]? =some (row[k-1]'∅):=Ag ∅;generalize row[k-1]'∅=qq at hq;have qn:qq<ps.length:=low qq (List.mem_flatten.mpr #[row,Ai hi,Ai hq]);refine#[by rw[Al,Ab];show 1+M.length<10000;lia,.n qq,?_,_,bQ (xG (show qq<ts.length by lia)),_,rfl,key _ #[0::M++[(ts.getD qq (0,0)).2],by simp;lia,λx=>?_,?_]]
  ·show atI (ntU row) ((k:Int)-1)=some (.n qq);rw[show(k:Int)-1=((k-1:Nat):Int) by lia];exact bQ (by rw[Ay,hq];rfl)
  ·rw[Nr,Cr,mm,Du,or_assoc];refine or_congr Kj #[λh=>?_,λ⟨q,h1,h2⟩=>?_]
   ·rcases h with ⟨q,h1,h2⟩|h
    ·exact#[q,Bf _ h1,h2]
    ·exact#[qq,Ax _ ((hrow qq).mpr #[∅,hq]),h.symm]
   ·rcases List.mem_append.mp h1 with h1|h1
    ·exact .inl #[q,h1,h2]
    ·have:=((hrow q).mp h1).2;rw[hq]at this;cases this;exact .inr h2.symm
  ·rw[show ntU (0::M++[(ts.getD qq (0,0)).2])=ntU (0::M)++[.n ((ts.getD qq (0,0)).2:Nat)]from Ca];rfl
 ·intro z;have z:=of_decide_eq_false z;refine#[0::M,by rw[Am];lia,λx=>?_,rfl];rw[Cr,mm];refine or_congr Kj #[λ⟨q,h1,h2⟩=>#[q,Bf _ h1,h2],λ⟨q,h1,h2⟩=>#[q,(List.mem_append.mp h1).elim id λh=>absurd ((hrow q).mp h).1 ∅,h2]]
structure zW(ns:List Int)(r:Int)(ps:#v[88])(hs:#v[d])(wt:List Pr):Prop where
 gs:iZ ns
 a40:(rY ns).length<=40
 mn:oF ns<=40
 r0:0<=r
 r12:r<=12
 lo:aI7 ns r ps hs wt
 no:NoR (lens ps) hs wt
def aNh(P:Program)(w:World)(N:Cn)(CG CJ:Addr):Fv:=λus R=>∃ns rs t ys m r ls,∃ps hs wt,us=[rH N CG CJ ns rs t ys m r ls,.op #v[g].fz,.tp [.ls (pcU ps),.ls (rwU hs),.ls (prU wt)],.wl]/\zW ns r ps hs wt/\R #v[x]
def zW.pap{ps:#v[88]}(g:zW ns r ps hs wt)(sub:∀p∈wt',p∈wt)(wl:wt'.length<=8):aI1 ns r ps hs wt':=by
 have pl:=g.lo.pl;exact#[g.gs,g.a40,g.mn,g.r0,g.r12,#[∅,λp hp=>#[(g.lo.pg p hp).1,by have:=(g.lo.pg p hp).2.1;lia,(g.lo.pg p hp).2.2]],∅,g.lo.sh,g.lo.h1,g.lo.h4,λp hp=>g.lo.wk p (sub p hp),∅]
theorem NoR.sub{ls:List Nat}{hs:#v[d]}{wt wt':List Pr}(h:NoR ls hs wt)(sub:∀p∈wt',p∈wt):NoR ls hs wt':=λws st=>h ws λv hv hn=>by
 obtain⟨m,h1,h2⟩:=st v hv hn;exact#[m,(List.mem_append.mp h1).elim (λz=>Bf _ (sub _ z)) (Ax _),h2]
def zW.walk{ps:#v[88]}(g:zW ns r ps hs wt)(sub:∀p∈wt',p∈wt)(wl:wt'.length<=8):GoodW (lens ps) hs wt':=by
 have pl:=g.lo.pl;exact#[by rw[Ab];lia,by rw[Ab];exact g.lo.sh,g.lo.h1,g.lo.h4,λp hp=>by rw[Ab];exact g.lo.wk p (sub p hp),∅,g.no.sub sub]
def aWe(h:aE5 a ts)(k:aE5 b ts):a=b:=by
 have l1:a<=b:=by
  rcases h.1 with z|⟨t,ht,z⟩
  ·lia
  ·have:=k.2 t ht;lia
 have l2:b<=a:=by
  rcases k.1 with z|⟨t,ht,z⟩
  ·lia
  ·have:=h.2 t ht;lia
 lia
theorem zM{α:Type}{g:α->Nat}:∀{l:List α},(l.map λx=>((g x:Nat):Int)).sum=(((l.map g).sum:Nat):Int)
 | []=>rfl
 |a::l=>by
  rw[Ba,Eg,zM,Ba,Eg]
  lia
def aIs(n:Nat)(ps:List Pr):U.dts (n+2) (prU ps):=by
 induction ps with
 |nil=>trivial
 |cons p ps ih=>exact#[#[trivial,trivial,trivial],ih]
def aOg(ps:List Pr):U.eq (.ls (prU ps)) (.ls [])=ps.isEmpty:=by cases ps<;>rfl
def aKr(s:Sys ([]++bU hs) ls ts)(nd:hs.flatten.Nodup)(low:∀row∈hs,∀p∈row,p<ls.length)(cov:∀p,p<ls.length->p∈hs.flatten)(all:∀row∈hs,(row.map (Lf ls)).sum<=M)(mx:aE5 m ts):m<=M:=by
 rw[Bd]at s;rcases mx.1 with z|⟨t,ht,z⟩
 ·lia
 ·obtain⟨p,hp,rfl⟩:=Gc ht;have pl:p<ls.length:=by rw[<-s.len];exact hp
  obtain⟨row,hr,hpr⟩:=List.mem_flatten.mp (cov p pl);obtain⟨i,hi⟩:=List.mem_iff_getElem?.mp hr;obtain⟨j,hj⟩:=List.mem_iff_getElem?.mp hpr;have h1:=aW9 s nd hi (low row hr) j p hj;have h2:((row.take (j+1)).map (Lf ls)).sum<=(row.map (Lf ls)).sum:=by
   have e:=congrArg (λl=>(Up (Lf ls) l).sum) (Ep (j+1) row);simp only[Ca,Ti]at e
   lia
  have h3:=all row hr;have e':Te ts p=m:=by
   unfold Te;rw[Bo,Ag hp];exact z
  lia
def aSb(l:List Pr)(k:Nat):mC (prU l) none (some (k:Int))=prU (l.take k):=by
 show mC (l.map λp:Pr=>U.tp [.n p.1,.n p.2]) none (some (k:Int))=(l.take k).map λp:Pr=>U.tp [.n p.1,.n p.2];unfold mC;rw[HT.zX,HT.yS,Oq,Qo,Ab,Pj];rcases Wn k l.length with h|h
 ·rw[Ob h]
 ·rw[Td h,El (by rw[Ab];lia),El (by rw[Ab];lia)]
def aRy(l:List Pr)(k:Nat):mC (prU l) (some (k:Int)) none=prU (l.drop k):=by
 show mC (l.map λp:Pr=>U.tp [.n p.1,.n p.2]) (some (k:Int)) none=(l.drop k).map λp:Pr=>U.tp [.n p.1,.n p.2];unfold mC;rw[HT.zX,HT.yS,Ab,Pk,El (by rw[Ej,Ab];lia)];rcases Wn k l.length with h|h
 ·rw[Ob h]
 ·rw[Td h,Qa (by rw[Ab];lia),Qa (by rw[Ab];lia)]
theorem aJv{α:Type}:∀l:List α,l.filterMap (λ_=>(none:Option U))=[]
 | []=>rfl
 |_::l=>aJv l
def aSe{l:List Pr}:prU l++[.tp [.n p.1,.n p.2]]=prU (l++[p]):=by simp
theorem aM1:∀l:List Pr,D.eqs (U.ds (prU l)) (U.ds (prU l))=true
 | []=>rfl
 |p::l=>by
  show((eqV (.int p.1) (.int p.1) && (eqV (.int p.2) (.int p.2) && true)) && D.eqs (U.ds (prU l)) (U.ds (prU l)))=true;rw[aM1 l];simp[eqV]
def aTl(l:List Pr):U.eq (.ls (prU l)) (.ls (prU l))=true:=aM1 l
abbrev qU:List Str:=["_law_job_here","_law_slots","_law_parts","_law_tape_here","_law_pieces","_law_hands","_law_waits","_law_paper","_law_counts","_law_times","_law_end","_law_most","_law_at","_law_fewer"]
def bY:aQ ["_law_job_here","_law_slots","_law_parts","_law_tape_here","_law_pieces","_law_hands","_law_waits","_law_paper","_law_counts","_law_times","_law_end","_law_most","_law_at","_law_fewer"] ["_law_job_here","_law_slots","_law_parts","_law_tape_here"] (aC fC):={}
def aPb(F:Fun K "_law_right" "_law_right" fC f fd)(M_Paper:MkU P w K mg base 7 CP "Paper" ["self","job","pieces","hands","waits","slots","wanted"] (aGt P w N CG CJ))(c_walk_times:⇑4 "walk_times" ["paper"] (spV (aDo P w CP)))(c_walk_end:⇑5 "walk_end" ["paper"] (spV (aTn P w CP)))(c_rows_end:⇑5 "rows_end" ["lasts","pairs","rows"] (spV aUy))(c__law_steady:⇑1 "_law_steady" ["_law_paper","_law_times"] (spV (aI3 P w CP)))(c__law_draw:#v[16])(T:Txt mg):↥9 f fd ["_law_job_here","_law_slots","_law_parts","_law_tape_here"] (spV (aNh P w N CG CJ)):=by
 refine vfn F bY (λcdv A outer s H E hr=>(aD (aG9 (aA 2) (qL rfl (cF (i:=4) bY.nd (cF (i:=5) bY.nd (cF (i:=6) bY.nd mF))))) (aD (aZ (i:=7) bY.nd (lB M_Paper (hr.mono ⋯) (aB (aA 0) (aB (aA 4) (aB (aA 5) (aB (aA 6) (aB (aA 1) (aB (bL aF) aF)))))))) (aD (aZ (i:=8) bY.nd (dR (own:=["_law_piece"]) (cap:=[]) (aC fC) qU rfl rfl (λx h=>aV h) #v[5] rfl (vic (aX (aA 4))) ↑#v[89] (bC ⋯) ↑#v[a])) (fO 8 (aD (aZ (i:=9) bY.nd (aL c_walk_times (hr.mono ⋯) rfl (aB (aA 7) aF))) (fO 9 (aD (aZ (i:=10) bY.nd (aL c_walk_end (hr.mono ⋯) rfl (aB (aA 7) aF))) (aD (cB (iD (jA (bK (lM (huD hr)) dD (aA 10) (aL c_rows_end (hr.mono ⋯) rfl (aB (aA 8) (aB (aA 6) (aB (aA 5) aF))))) (fB (cH (cI (aL c__law_steady (hr.mono ⋯) rfl (aB (aA 7) (aB (aA 9) aF)))))))) #v[61] bA) (aD (aZ (i:=11) bY.nd (aO (aB0 rfl) aJn T.max Ui (aJ (aXx (own:=["_law_row"]) (cap:=[("_law_counts",8)]) aJj (aC fC) qU rfl rfl (λx h=>aV h) #v[5] rfl (vic (aX (aA 5))) (λcs cf C s2 H2 fp=>(aW (i:=0) (~~~["_law_row","_law_counts"]) rfl (Cv rfl) (Dc rfl))) (bC ⋯) (λcs cf C s2 H2 fp=>(aO (vA rfl) aDy T.sum Uh (aJ (aOw (own:=["_law_piece"]) (icap:=[("_law_counts",1)]) (aC fC) cf rfl rfl #v[5] rfl (vic (aX (aA 0))) (λcl C' s3 H3 fp'=>(aW (i:=0) (~~~["_law_piece","_law_counts"]) rfl (Cv rfl) (Dc rfl))) (bC ⋯) (λcl C' s3 H3 fp'=>(bH aY bI (aA 1) (aA 0)))) aM)))) aM))) (aD (cB (iD (jA (bK aGa cU (aA 10) (aA 11)) (fB (bK lF cU (aA 10) (aO (vA rfl) aDy T.sum Uh (aJ (aA 8) aM)))))) #v[61] bA) (aD (cB (bK #v[V] dD (aA 6) (bL aF)) (aG (aU (iB #v[V] dD (aA 10) (aA 11)))) bA) (aD (aZ (i:=12) bY.nd (aL c__law_draw (hr.mono ⋯) rfl (aB (aA 3) (aB (aO aK bF T.len Br (aJ (aA 6) aM)) aF)))) (aD (aZ (i:=13) bY.nd (aL c_walk_times (hr.mono ⋯) rfl (aB (lB M_Paper (hr.mono ⋯) (aB (aA 0) (aB (aA 4) (aB (aA 5) (aB (cT dH fH (aOa (aA 6) aD4 (uV (aA 12))) (aOa (aA 6) (uV (cT dH fH (aA 12) aH)) aD4)) (aB (aA 1) (aB (bL aF) aF))))))) aF))) (aD (cB (bK (lM (huD hr)) dD (aD0 (own:=["_law_k"]) (cap:=[("_law_times",9),("_law_fewer",13)]) (aC fC) qU rfl rfl (λx h=>aV h) #v[5] rfl (vic (eV T.range (aJ (aO aK bF T.len Br (aJ (aA 4) aM)) aM))) ↑(aW (i:=0) (~~~["_law_k","_law_times","_law_fewer"]) rfl (Cv rfl) (Dc rfl)) (bC ⋯) ↑(bK lF cU (bH aY bI (bH aY bI (aA 2) (aA 0)) aH) (bH aY bI (bH aY bI (aA 1) (aA 0)) aH)) (λcl C s2 H2 fp=>aH)) (bL aF)) #v[61] bA) (aG (aU (iB #v[V] dD (aL c_walk_times (hr.mono ⋯) rfl (aB (lB M_Paper (hr.mono ⋯) (aB (aA 0) (aB (aA 4) (aB (aA 5) (aB (cT dH fH (aA 6) (bL (aB (bH aY bI (aA 6) (aA 12)) aF))) (aB (aA 1) (aB (bL aF) aF))))))) aF)) (aA 9))))))))))))))))))) ?_;rintro _ R ⟨ns,rs,t,ys,m,r,ls,ps,hs,wt,rfl,g,q⟩;have pl:=g.lo.pl;have wl:=g.lo.wl;have gw:=g.walk (λ_ h=>h) ∅;refine#[rfl,rfl,ns,rs,t,ys,m,r,ls,ps,hs,wt,rfl,g.pap (λ_ h=>h) ∅,?_];refine#[by rw[Ab];lia,eE (B:=λp:List Tk=>some (U.n (p.length:Nat))) (λp hp k hk=>?_) ?_]
 ·show k #v[95];rw[Ab];exact hk
 rw[Bd,Cu, <-aCs];refine#[_,ps,hs,wt,_,rfl,gw,λts sy=>?_];refine#[_,ps,hs,wt,_,rfl,gw,λts2 e2 sy2 mx2=>?_];refine#[lens ps,hs,wt,rfl,gw,λts3 e3 sy3 mx3=>?_];have hL:∀x∈lens ps,0<x:=λx hx=>by
  obtain⟨p,hp,rfl⟩:=List.mem_map.mp hx;exact List.length_pos_iff.mpr (g.lo.pg p hp).1
 obtain rfl:ts2=ts:=Sys.same hL gw.below (λ_=>Kj) sy2 sy;obtain rfl:ts3=ts2:=Sys.same hL gw.below (λ_=>Kj) sy3 sy2;obtain rfl:e3=e2:=aWe mx3 mx2;refine#[trivial,trivial,λz=>?_,λ_=>#[_,ps,hs,wt,_,ts3,rfl,gw,sy,nofun,λ_=>?_]]
 ·have z:(!(U.eq (.n (e3:Nat)) (.n (e3:Nat))))=true:=z;rw[mX,decide_eq_true rfl]at z;cases z
 have sub:∀p∈bU hs,p∈wt++bU hs:=λp hp=>Ax _ hp;have nd:hs.flatten.Nodup:=gw.sh.nodup_iff.mpr Fh;have low:∀row∈hs,∀p∈row,p<(lens ps).length:=λrow hr p hp=>List.mem_range.mp (gw.sh.subset (List.mem_flatten.mpr #[row,hr,hp]));have cov:∀p,p<(lens ps).length->p∈hs.flatten:=λp hp=>gw.sh.symm.subset (List.mem_range.mpr hp);have fl:=gw.fl;rw[Ab]at fl;have l6:∀p,Lf (lens ps) p<=6:=λp=>by
  unfold Lf;rw[Bo];cases e:(lens ps)[p]? with
  |none=>exact Bg _
  |some x=>
   obtain⟨y,hy,rfl⟩:=List.mem_map.mp (Ai e);exact(g.lo.pg y hy).2.1
 show tY.nx _ [.sh #v[20],.sh (.op #v[g].fz),.sh (.tp [.ls (pcU ps),.ls (rwU hs),.ls (prU wt)]),.sh .wl,.sh (.ls (pcU ps)),.sh (.ls (rwU hs)),.sh (.ls (prU wt)),.sh (aDc P w CP #v[20] ps hs wt #v[J]),.sh (.ls (ntU (lens ps))),.sh (.ls (prU ts3)),.sh (.n e3),.no,.no,.no];have h4:=g.lo.h4;refine#[by rw[Ab];lia,eE (B:=λrow:List Nat=>some (U.n (((row.map (Lf (lens ps))).sum:Nat):Int))) (λrow hr k hk=>?_) ?_]
 ·have rl:=(Gp hr).length_le;refine#[by rw[Ab];lia,eE (B:=λp:Nat=>some (U.n (Lf (lens ps) p:Nat))) (λp hp k hk=>#[_,bQ (aD7 (low row hr p hp)),hk]) ?_];rw[Bd,Cu];refine#[row.map λp=>((Lf (lens ps) p:Nat):Int),by rw[Au];rfl,by rw[Ab];lia,λx hx=>?_,?_]
  ·obtain⟨p,_,rfl⟩:=List.mem_map.mp hx;have:=l6 p
   lia
  ·rw[zM];exact hk
 rw[Bd,Cu];have h1:=g.lo.h1;refine#[hs.map λrow=>(((row.map (Lf (lens ps))).sum:Nat):Int),by rw[Au];rfl,(λe=>by rw[List.map_eq_nil_iff.mp e]at h1;cases h1),λmm hm hx=>?_];obtain⟨r0,hr0,rfl⟩:=List.mem_map.mp hm;have most:(r0.map (Lf (lens ps))).sum<=e3:=aNn sy sub hr0 (low r0 hr0) mx2;have all:∀row∈hs,(row.map (Lf (lens ps))).sum<=(r0.map (Lf (lens ps))).sum:=λrow hr=>by
  have:=hx _ (List.mem_map.mpr #[row,hr,rfl])
  lia
 generalize (r0.map (Lf (lens ps))).sum=M at most all;refine#[λz=>absurd (of_decide_eq_true z) ∅,λ_=>#[(lens ps).map λn:Nat=>(n:Int),by rw[Au];rfl,by rw[Ab,Ab];lia,λx hx=>?_,λz=>?_,λ_=>?_]]
 ·obtain⟨n,hn,rfl⟩:=List.mem_map.mp hx;obtain⟨y,hy,rfl⟩:=List.mem_map.mp hn;have:=(g.lo.pg y hy).2.1
  lia
 ·have z:=of_decide_eq_true z;have:=aWg hL gw.below sy mx2;rw[show((lens ps).map λn:Nat=>(n:Int)).sum=((lens ps).sum:Nat) by rw[<-Je (lens ps),Au];exact zM]at z
  lia
 refine#[aIs 37 wt,trivial,λz=>?_,λz=>?_]
 ·have z:U.eq (.ls (prU wt)) (.ls [])=true:=z;rw[aOg]at z;obtain rfl:=List.isEmpty_iff.mp z;refine#[trivial,trivial,?_];have le:e3<=M:=aKr sy nd low cov all mx2;show R (.sh (.b (U.eq (.n (e3:Nat)) (.n (M:Nat)))));rw[mX,decide_eq_true (show e3=M by lia)];exact q
 have z:U.eq (.ls (prU wt)) (.ls [])=false:=z;rw[aOg]at z;have w0:0<wt.length:=List.length_pos_iff.mpr λe=>by rw[e]at z;cases z
 refine#[_,rfl,by rw[Ab];lia,by rw[Ab];lia,λx x0 x1=>?_];rw[Ab]at x1;obtain⟨x,rfl⟩:=Ei x0;have x1:x<wt.length:=by lia
 have sub1:∀p∈wt.take x++wt.drop (x+1),p∈wt:=λp hp=>#v[74].elim Hh Iu;have len1:(wt.take x++wt.drop (x+1)).length<=8:=by rw[Al,Eu,Ej];lia
 have ec:mC (prU wt) none (some (x:Int))++mC (prU wt) (some ((x:Int)+1)) none=prU (wt.take x++wt.drop (x+1)):=by
  rw[show(x:Int)+1=((x+1:Nat):Int) by lia,aSb,aRy];exact List.map_append.symm
 have lc:(mC (prU wt) none (some (x:Int))).length+(mC (prU wt) (some ((x:Int)+1)) none).length<=10000:=by
  rw[<-Al,ec,Ab]
  lia
 refine#[lc,?_];rw[ec];refine#[ns,rs,t,ys,m,r,ls,ps,hs,wt.take x++wt.drop (x+1),rfl,g.pap sub1 len1,_,ps,hs,wt.take x++wt.drop (x+1),_,rfl,g.walk sub1 len1,λts1 sy1=>?_];have le1:∀p,p<ps.length->Te ts1 p<=Te ts3 p:=λp hp=>Sys.le hL (g.walk sub1 len1).below (λo ho=>(List.mem_append.mp ho).elim (λz=>Bf _ (sub1 o z)) (Ax _)) sy1 sy (by rw[Ab];exact hp);have tl1:ts1.length=ps.length:=by have:=sy1.len;rwa [Ab]at this
 have tl3:ts3.length=ps.length:=by have:=sy.len;rwa [Ab]at this
 refine#[by rw[Ab];lia,by rw[Ab];lia,by rw[cM,Ab];lia,?_];rw[Bw,Ab,pP];refine eE (B:=λ_:Nat=>none) (λp hp k hk=>?_) ?_
 ·have hp:=List.mem_range.mp hp;refine#[_,bQ (xG ∅),_,rfl,_,bQ (xG ∅),_,rfl,λz=>?_,λ_=>hk];have z:=of_decide_eq_true z;have:=le1 p hp;unfold Te at this
  lia
 rw[Bd,aJv];refine#[trivial,trivial,nofun,λ_=>?_];have e9:wt[x]? =some wt[x]:=Ag x1;generalize wt[x]=pw at e9;have sub2:∀p∈wt++[pw],p∈wt:=λp hp=>#v[74].elim id λh=>by rw[List.mem_singleton.mp h];exact Ai e9
 have len2:(wt++[pw]).length<=8:=by rw[Al,Dg];lia
 refine#[_,bQ (show(prU wt)[x]? =some (.tp [.n pw.1,.n pw.2]) by rw[Ay,e9];rfl),by rw[Ab];show _+1<=_;lia,?_];rw[aSe];refine#[ns,rs,t,ys,m,r,ls,ps,hs,wt++[pw],rfl,g.pap sub2 len2,_,ps,hs,wt++[pw],_,rfl,g.walk sub2 len2,λts4 sy4=>?_];obtain rfl:ts4=ts3:=Sys.same hL (g.walk sub2 len2).below (λo=>#[λho=>(List.mem_append.mp ho).elim (λz=>Bf _ (sub2 o z)) (Ax _),λho=>(List.mem_append.mp ho).elim (λz=>Bf _ (Bf _ z)) (Ax _)]) sy4 sy;refine#[aIs 37 _,aIs 37 _,?_];show R (.sh (.b (U.eq (.ls (prU ts4)) (.ls (prU ts4)))));rw[aTl];exact q
open PySem PyProof.Rows L2 KR
def lX{h:α->U}{l:List α}(n:∀x∈l,Nw (h x)):Nws (l.map h):=by
 induction l with
 |nil=>trivial
 |cons a l ih=>exact#[n a Ah,ih λx hx=>n x (Af _ hx)]
def vM(l:List Int):Nws (l.map U.n):=lX λ_ _=>trivial
def aUk(q:Tk):Nw (tkU q):=#[trivial,vM q.2,trivial]
def aHw(l:List Tk):Nws (l.map tkU):=lX λq _=>aUk q
def aO9(r:Rim):Nw r.u:=by cases r<;>exact#[trivial,by first|trivial|exact#[trivial,trivial]]
theorem aIn(N:Cn):∀t:Tm,Nw (enc N t)
 |.num _=>#[trivial,trivial]
 |.take _ ss=>#[trivial,vM ss,trivial]
 |.bin _ a b=>#[aIn N a,aIn N b,trivial]
def aQk{rs:List Rim}{ys:List Tk}{m r:Int}{ls:#v[z]}:Nw #v[20]:=
 #[aHw ys,#[vM ns,lX λr _=>aO9 r,trivial],aIn N t,trivial,trivial,lX λl _=>vM l,trivial]
def aUd{rs:List Rim}{ys:List Tk}:Nw #v[78]:=#[vM ns,lX λr _=>aO9 r,aHw ys,trivial,trivial]
def bAr{P:Program}{w:World}(h:∀p∈kvs,Nw p.2)(f:(pdO P w kvs).fz.φ W B H v):(pdO P w kvs).fz.φ W' B H v:=by
 obtain⟨p,S,e,nb,s,xs,hp,r⟩:=f;refine#[p,S,e,nb,s,xs,hp,?_];clear hp;induction r with
 |nil=>exact .nil
 |cons d rv dv t ih=>exact .cons (DU.nw _ (aUk _) d) rv (DU.nw _ (h _ Ah) dv) (ih λp hp=>h p (Af _ hp))
def aQm(K:Ad):Fv:=λus R=>∃sc:List Int,us=[.op (aH1 K sc)]/\R #v[x]
abbrev aT6:List Str:=["_law_script","_law_world_here","_law_job_here","_law_slots","_law_cell","_law_tape_here","_law_pieces","_law_hands","_law_waits"]
def qZ:aQ ["_law_script","_law_world_here","_law_job_here","_law_slots","_law_cell","_law_tape_here","_law_pieces","_law_hands","_law_waits"] ["_law_script"] (aC xX):={}
def aV9(F:Fun K "law" "law" xX f fd)(c__law_cell_at:⇑1 "_law_cell_at" ["_law_script","_law_k"] (spV (aU0 K)))(c__law_tape:⇑1 "_law_tape" ["_law_cell"] (spV aTz))(c__law_world:⇑2 "_law_world" ["_law_tape_here"] (spV aNc))(c__law_job:⇑16 "_law_job" ["_law_world_here","_law_tape_here"] (spV (aT9 N CG CJ)))(c__law_spots:⇑2 "_law_spots" ["_law_world_here"] (spV aIq))(c__law_loose:⇑3 "_law_loose" ["_law_world_here","_law_tape_here"] (spV aMn))(c__law_clock:⇑1 "_law_clock" ["_law_lasts","_law_pairs","_law_rows"] (spV aPh))(c__law_right:⇑9 "_law_right" ["_law_job_here","_law_slots","_law_parts","_law_tape_here"] (spV (aNh P w N CG CJ)))(T:Txt mg):↥18 f fd ["_law_script"] (spV (aQm K)):=by
 refine vfn F qZ (λcdv A outer s H E hr=>(aD (aZ (i:=1) qZ.nd (aPn c__law_world (hr.mono ⋯) rfl (aL c__law_tape (hr.mono ⋯) rfl #v[36]) aF)) (aD (aZ (i:=2) qZ.nd (aLp c__law_job (hr.mono ⋯) rfl (aA 1) (aL c__law_tape (hr.mono ⋯) rfl #v[36]))) (aD (aZ (i:=3) qZ.nd (aXy (P:=P) (w:=w) rfl rfl hr rfl T.dict (dR (own:=["_law_spot"]) (cap:=[]) (aC xX) aT6 rfl rfl (λx h=>aV h) #v[5] rfl (vic (aX (aL c__law_spots (hr.mono ⋯) rfl (aB (aA 1) aF)))) ↑(aW (i:=0) (~~~["_law_spot"]) rfl (Cv rfl) (Dc rfl)) (bC ⋯) ↑(dM (aB (aA 0) (aB aH aF)))))) (fO 3 (aD (cO Bc rfl (aX (cT dH fH (bL #v[36]) (aVt rfl (aA 0) (uV aH) (uV aH)))) (cR (i:=4) qZ.nd) (aD (aZ (i:=5) qZ.nd (aL c__law_tape (hr.mono ⋯) rfl (aB (aA 4) aF))) (aKf 5 (aD (aG9 (aL c__law_loose (hr.mono ⋯) rfl (aB (aA 1) (aB (aA 5) aF))) (qL rfl (cF (i:=6) qZ.nd (cF (i:=7) qZ.nd (cF (i:=8) qZ.nd mF))))) (aG (cB (yP (aL c__law_clock (hr.mono ⋯) rfl (aB (dR (own:=["_law_piece"]) (cap:=[]) (aC xX) aT6 rfl rfl (λx h=>aV h) #v[5] rfl (vic (aX (aA 6))) ↑#v[89] (bC ⋯) ↑#v[a]) (aB (aA 8) (aB (aA 7) aF))))) (aG (cB (cH (cI (aL c__law_right (hr.mono ⋯) rfl (aB (aA 2) (aB (aA 3) (aB (dM (aB (aA 6) (aB (aA 7) (aB (aA 8) aF)))) (aB (aA 5) aF))))))) #v[61] bA)) bA)))))) #v[61])))))) ?_;rintro _ R ⟨sc,rfl,q⟩;refine#[rfl,sc,0,rfl,λn0=>#[n0,rfl,λa b c=>#[rfl,λns rs ys r g=>#[aUd,?_]]]];refine#[sc,1,rfl,λn1=>#[n1,rfl,λa b c=>#[ns,rs,ys,r,rfl,g,λt ls zs hz pw=>#[aQk (N:=N) (CG:=CG) (CJ:=CJ),?_]]]];have cl:(mC (sc.map U.n) (some 3) (some 12)).length<=12:=by
  unfold mC;rw[Eu];have:HT.sIx (sc.map U.n).length (sc.map U.n).length (some ((12:Nat):Int))<=12:=by rw[HT.yS];exact Nat.min_le_left ..
  have:HT.sIx (sc.map U.n).length (sc.map U.n).length (some 12)<=12:=this
  lia
 have cm:∀u∈mC (sc.map U.n) (some 3) (some 12),∃n:Int,u=.n n:=λu h=>by
  obtain⟨n,_,rfl⟩:=List.mem_map.mp (Iu (Hh h));exact#[n,rfl]
 have r12:r<=12:=by have:=g.r5;lia
 have sl:=zB g.gs r12;refine#[ns,rs,ys,r,rfl,g,aAz g.gs,λs hs=>?_];subst hs;refine#[by rw[aAo,Ab];lia,?_];show jT _ (spU (plU ns) r.toNat) [] _;rw[aAo];refine eE (B:=λq:Tk=>some (U.tp [tkU q,.n 0])) (λq hq k hk=>hk) ?_;rw[Bd,Cu];refine#[kv0 #v[J],by unfold kv0;rw[Au];rfl,by rw[aGr];exact aPl ns r.toNat,?_];refine#[sc,2,rfl,λn2=>#[sc,rfl,by show 1+_<=10000;lia,?_]];show iI (gZ 4) _ _ ([U.n n2]++mC (sc.map U.n) (some 3) (some 12)) [.sh (.op (aH1 K sc)),.sh #v[78],.sh (rH N CG CJ ns rs t zs 97 r ls),.sh (.op #v[g].fz),.no,.no,.no,.no,.no];refine bG (λl ρ=>(∀u∈l,∃n:Int,u=.n n)/\∃a b c d e:Sl,ρ=[.sh (.op (aH1 K sc)),.sh #v[78],.sh (rH N CG CJ ns rs t zs 97 r ls),.sh (.op #v[g].fz),a,b,c,d,e]) ?_ ?_ #[λu hu=>?_,_,_,_,_,_,rfl]
 ·rintro ρ ⟨_,a,b,c,d,e,rfl⟩;exact q
 ·rintro u l ρ ⟨hl,s4,s5,s6,s7,s8,rfl⟩ ih;obtain⟨n,rfl⟩:=hl u Ah;refine#[n,rfl,λa b c=>#[ns,rs,ys,r,rfl,g,λps hs wt lo=>?_]];have pl:=lo.pl;have wl:=lo.wl;have gc:GoodC (lens ps) hs wt:=by
   refine#[by rw[Ab];lia,by rw[Ab];exact lo.sh,lo.h4,λp hp=>by rw[Ab];exact lo.wk p hp,∅,λx hx=>?_];obtain⟨p,hp,rfl⟩:=List.mem_map.mp hx;have h1:=List.length_pos_iff.mpr (lo.pg p hp).1;have h2:=(lo.pg p hp).2.1;exact#[h1,∅]
  refine#[rfl,by rw[Ab];lia,eE (B:=λp:List Tk=>some (U.n (p.length:Nat))) (λp hp k hk=>?_) ?_]
  ·show k #v[95];rw[Ab];exact hk
  rw[Bd,Cu, <-aCs];refine#[lens ps,wt,hs,rfl,gc,#[nofun,λ_=>?_],λnr l0=>#[λ_=>#[ns,rs,t,zs,97,r,ls,ps,hs,wt,rfl,#[g.gs,aAz g.gs,by have:=g.p6;lia,g.r0,r12,lo,nr],nofun,λ_=>?_],nofun]]
  all_goals
   refine#[λjj s hj hs=>?_,ih _ #[λu hu=>hl u (Af _ hu),_,_,_,_,_,rfl]];match jj,hs with
   |0,rfl=>exact .inr #[_,rfl,λh=>h]
   |1,rfl=>exact .inl aUd
   |2,rfl=>exact .inl aQk
   |3,rfl=>exact .inr ⟨_,rfl,bAr λp hp=>by
     obtain⟨z,_,rfl⟩:=List.mem_map.mp hp;trivial⟩
   |4,rfl=>exact .inl trivial
   |5,_=>exact absurd rfl hj
   |6,rfl=>exact .inl (lX λp _=>aHw p)
   |7,rfl=>exact .inl (lX λp _=>lX λ_ _=>trivial)
   |8,rfl=>exact .inl (lX λp _=>#[trivial,trivial,trivial])
 ·rcases List.mem_append.mp hu with h|h
  ·exact#[_,List.mem_singleton.mp h]
  ·exact cm u h
def tag:Tm->Nat
 |.num _=>0
 |.take _ _=>1
 |.bin k _ _=>if k then 3 else 2
def aC6(N:Cn):List Addr:=[N.num,N.take,N.bin false,N.bin true]
def aPc(N:Cn):∀t:Tm,(aC6 N)[tag t]? =some (cls N t)
 |.num _=>rfl
 |.take _ _=>rfl
 |.bin false _ _=>rfl
 |.bin true _ _=>rfl
def aH9{N:Cn}(nd:(aC6 N).Nodup){t u:Tm}(h:cls N t=cls N u):tag t=tag u:=by
 have h1:=aPc N t;have h2:=aPc N u;rw[h]at h1;exact(List.getElem?_inj (List.getElem?_eq_some_iff.mp h1).1 nd).mp (h1.trans h2.symm)
def aNo{N:Cn}(nd:(aC6 N).Nodup)(h:cls N t=N.num):∃n,t=.num n:=by
 have:=aH9 nd (u:=.num 0) h;cases t with
 |num=>exact#[_,rfl]
 |take=>cases this
 |bin k=>cases k<;>cases this
def aD5{N:Cn}(nd:(aC6 N).Nodup)(h:cls N t=N.take):∃b ss,t=.take b ss:=by
 have:=aH9 nd (u:=.take 0 []) h;cases t with
 |num=>cases this
 |take=>exact#[_,_,rfl]
 |bin k=>cases k<;>cases this
def aXe{N:Cn}(nd:(aC6 N).Nodup)(h:cls N t=N.bin k):∃a b,t=.bin k a b:=by
 have:=aH9 nd (u:=.bin k (.num 0) (.num 0)) h;cases t with
 |num=>cases k<;>cases this
 |take=>cases k<;>cases this
 |bin j a b=>cases k<;>cases j<;>first|exact#[a,b,rfl]|cases this
def knS{P:List Value->Prop}(h:us.length=n+1)(k:∀a t,t.length=n->P (a::t)):P us:=by
 cases us with
 |nil=>cases h
 |cons a t=>exact k a t (Jb h)
def kn1{P:List Value->Prop}(h:us.length=1)(k:∀a,P [a]):P us:=knS h λa t ht=>by cases t with|nil=>exact k a|cons=>cases ht
def kn2{P:List Value->Prop}(h:us.length=2)(k:∀a b,P [a,b]):P us:=knS h λa t ht=>kn1 (P:=λt=>P (a::t)) ht λb=>k a b
def kn3{P:List Value->Prop}(h:us.length=3)(k:∀a b c,P [a,b,c]):P us:=knS h λa t ht=>kn2 (P:=λt=>P (a::t)) ht λb c=>k a b c
def kn4{P:List Value->Prop}(h:us.length=4)(k:∀a b c d,P [a,b,c,d]):P us:=knS h λa t ht=>kn3 (P:=λt=>P (a::t)) ht λb c d=>k a b c d
def kn5{P:List Value->Prop}(h:us.length=5)(k:∀a b c d e,P [a,b,c,d,e]):P us:=knS h λa t ht=>kn4 (P:=λt=>P (a::t)) ht λb c d e=>k a b c d e
def kn6{P:List Value->Prop}(h:us.length=6)(k:∀a b c d e f,P [a,b,c,d,e,f]):P us:=knS h λa t ht=>kn5 (P:=λt=>P (a::t)) ht λb c d e f=>k a b c d e f
def kn7{P:List Value->Prop}(h:us.length=7)(k:∀a b c d e f g,P [a,b,c,d,e,f,g]):P us:=knS h λa t ht=>kn6 (P:=λt=>P (a::t)) ht λb c d e f g=>k a b c d e f g
def kb1{fd:FuncData}(h:us.length=1)(k:∀a,bindArgs fd #[[a],[]]=pure (ps.zip [a])):bindArgs fd #[us,[]]=pure (ps.zip us):=kn1 (P:=λus=>bindArgs fd #[us,[]]=pure (ps.zip us)) h k
def kb2{fd:FuncData}(h:us.length=2)(k:∀a b,bindArgs fd #[[a,b],[]]=pure (ps.zip [a,b])):bindArgs fd #[us,[]]=pure (ps.zip us):=kn2 (P:=λus=>bindArgs fd #[us,[]]=pure (ps.zip us)) h k
def kb3{fd:FuncData}(h:us.length=3)(k:∀a b c,bindArgs fd #[[a,b,c],[]]=pure (ps.zip [a,b,c])):bindArgs fd #[us,[]]=pure (ps.zip us):=kn3 (P:=λus=>bindArgs fd #[us,[]]=pure (ps.zip us)) h k
def kb4{fd:FuncData}(h:us.length=4)(k:∀a b c d,bindArgs fd #[[a,b,c,d],[]]=pure (ps.zip [a,b,c,d])):bindArgs fd #[us,[]]=pure (ps.zip us):=kn4 (P:=λus=>bindArgs fd #[us,[]]=pure (ps.zip us)) h k
def kb6{fd:FuncData}(h:us.length=6)(k:∀a b c d e f,bindArgs fd #[[a,b,c,d,e,f],[]]=pure (ps.zip [a,b,c,d,e,f])):bindArgs fd #[us,[]]=pure (ps.zip us):=kn6 (P:=λus=>bindArgs fd #[us,[]]=pure (ps.zip us)) h k
def kb7{fd:FuncData}(h:us.length=7)(k:∀a b c d e f g,bindArgs fd #[[a,b,c,d,e,f,g],[]]=pure (ps.zip [a,b,c,d,e,f,g])):bindArgs fd #[us,[]]=pure (ps.zip us):=kn7 (P:=λus=>bindArgs fd #[us,[]]=pure (ps.zip us)) h k
abbrev GN(K:Ad)(n:Str)(f:Addr):Prop:=Oy K mainGlobals n=some (some (.ref f))
abbrev FI(K:Ad)(C:Addr)(n:Str)(f:Addr):Prop:=Ef K (.ref C) n=some (some (.ref f))
abbrev ZN(K:Ad)(n:Str):Prop:=Oy K mainGlobals n=some none
abbrev QN(K:Ad)(n:Str)(i:Int)(t:Tok):Prop:=Oy K mainGlobals n=some (some (.int i t))
structure FF(K:Ad)(x:Str)(st:Stmt)(f:Addr)(fd:FuncData):Prop where
 a:GN K x f
 F:Fun K x x st f fd
structure MF(K:Ad)(C:Addr)(x q:Str)(st:Stmt)(f:Addr)(fd:FuncData):Prop where
 m:Meth K C x f
 F:Fun K x q st f fd
structure CK(K:Ad)(C:Addr)(fs:List Str):Prop where
 c:Cls K C
 na:∀f∈fs,mU K C f
 ms:Mm K C=true
 kc:Hc K (.ref C)=true
def CK.fl{K:Ad}{C:Addr}(h:CK K C fs):Cfl K C fs:=#[h.c,h.na]
def na0{K:Ad}{C:Addr}:∀f∈([]:List Str),mU K C f:=λ_ h=>nomatch h
def naS{K:Ad}{C:Addr}{x:Str}{l:List Str}(h:Ef K (.ref C) x=some none)(k:∀f∈l,mU K C f):∀f∈x::l,mU K C f:=λf hf=>(List.mem_cons.mp hf).elim (λe=>e▸h) (k f)
def mth{K:Ad}{C D f:Addr}{n:Str}(h:Meth K C n f)(g:FI K D n f):Meth K D n f:=#[g,h.fn,h.kp]
def mkO{K:Ad}{C f:Addr}(h:CK K C fs)(g:Meth K C "__init__" f):Mk K C f:=#[h.ms,g.at_,g.fn,h.kc]
def fb1(a:Str){st:Stmt}{f:Addr}{fd:FuncData}(F:Fun K x q st f fd)(h:∀kV doc pm an cdv ct u,bindArgs #v[l] #[[u],[]]=pure ([a].zip [u]):=by intros;rfl):Binds K fd [a] []:=F.binds λ_ _ _ _ _ _ us hl=>kb1 hl (h _ _ _ _ _ _)
def fb2(a b:Str){st:Stmt}{f:Addr}{fd:FuncData}(F:Fun K x q st f fd)(h:∀kV doc pm an cdv ct u v,bindArgs #v[l] #[[u,v],[]]=pure ([a,b].zip [u,v]):=by intros;rfl):Binds K fd [a,b] []:=F.binds λ_ _ _ _ _ _ us hl=>kb2 hl (h _ _ _ _ _ _)
def fb3(a b c:Str){st:Stmt}{f:Addr}{fd:FuncData}(F:Fun K x q st f fd)(h:∀kV doc pm an cdv ct u v y,bindArgs #v[l] #[[u,v,y],[]]=pure ([a,b,c].zip [u,v,y]):=by intros;rfl):Binds K fd [a,b,c] []:=F.binds λ_ _ _ _ _ _ us hl=>kb3 hl (h _ _ _ _ _ _)
def fb4(a b c d:Str){st:Stmt}{f:Addr}{fd:FuncData}(F:Fun K x q st f fd)(h:∀kV doc pm an cdv ct u v y z,bindArgs #v[l] #[[u,v,y,z],[]]=pure ([a,b,c,d].zip [u,v,y,z]):=by intros;rfl):Binds K fd [a,b,c,d] []:=F.binds λ_ _ _ _ _ _ us hl=>kb4 hl (h _ _ _ _ _ _)
def fb6(a b c d e g:Str){st:Stmt}{f:Addr}{fd:FuncData}(F:Fun K x q st f fd)(h:∀kV doc pm an cdv ct u v y z o p,bindArgs #v[l] #[[u,v,y,z,o,p],[]]=pure ([a,b,c,d,e,g].zip [u,v,y,z,o,p]):=by intros;rfl):Binds K fd [a,b,c,d,e,g] []:=F.binds λ_ _ _ _ _ _ us hl=>kb6 hl (h _ _ _ _ _ _)
def fb7(a b c d e g i:Str){st:Stmt}{f:Addr}{fd:FuncData}(F:Fun K x q st f fd)(h:∀kV doc pm an cdv ct u v y z o p r,bindArgs #v[l] #[[u,v,y,z,o,p,r],[]]=pure ([a,b,c,d,e,g,i].zip [u,v,y,z,o,p,r]):=by intros;rfl):Binds K fd [a,b,c,d,e,g,i] []:=F.binds λ_ _ _ _ _ _ us hl=>kb7 hl (h _ _ _ _ _ _)
def vH{CX:CXT}{k:Nat}{f:Addr}{fd:FuncData}{sp:Sp}(h:∀vs H Q E,¬sp vs H Q E):bJ P w K mg base CX k f fd ps sp:=
 #[λvs H Q E z=>absurd z (h vs H Q E),λ_ _ _ H _ _ vs Q E _ _ _ _ z=>absurd z (h vs H Q E)]
def aL6{f1 f2:Addr}{g1 g2:FuncData}(nd:(aC6 N).Nodup)(F1:Fun K "inner" "Term.inner" lY f1 g1)(F2:Fun K "inner" "Paired.inner" jL f2 g2)
  (cl:∀C,IsC N C->Cls K C) (c5:∀k,Cfl K (N.bin k) ["one","other"])
  (m1:Meth K N.num "inner" f1) (m2:Meth K N.take "inner" f1) (m5:∀k,Meth K (N.bin k) "inner" f2):lU P w K mg base N 1 "inner" (lL N):=by
 refine#[λC hC=>#[cl C hC,?_]];rcases hC with rfl|rfl|⟨k,rfl⟩
 ·exact#[f1,g1,m1,aB2 F1 (λt h=>by obtain⟨n,rfl⟩:=aNo nd h;rfl),fb1 "self" F1]
 ·exact#[f1,g1,m2,aB2 F1 (λt h=>by obtain⟨b,ss,rfl⟩:=aD5 nd h;rfl),fb1 "self" F1]
 ·exact#[f2,g2,m5 k,aK5 F2 (c5 k) λt h=>aXe nd h,fb1 "self" F2]
theorem aCd{f1 f2:Addr}{g1 g2:FuncData}(nd:(aC6 N).Nodup)(F1:Fun K "takes" "Term.takes" mJ f1 g1)(F2:Fun K "takes" "Take.takes" mK f2 g2)(cl:∀C,IsC N C->Cls K C)(c2:Cfl K N.take ["back","steps"])
  (m1:∀C,IsC N C->C≠N.take->Meth K C "takes" f1) (m2:Meth K N.take "takes" f2) (D_inner:#v[v]) (T:Txt mg):∀d,lU P w K mg base N (d+1) "takes" (sU N d)
 |0=>⟨λC hC=>⟨cl C hC,by
   have no:∀vs H Q E,¬spV (sU N 0 C) vs H Q E:=λvs H Q E ⟨_,_,_,_,_,_,⟨t,_,_,h,_⟩,_⟩=>absurd (aEa t) ∅;by_cases e:C=N.take
   ·subst e;exact#[f2,g2,m2,vH no,fb1 "self" F2]
   ·exact#[f1,g1,m1 C hC e,vH no,fb1 "self" F1]⟩⟩
 |d+1=>⟨λC hC=>⟨cl C hC,by
   by_cases e:C=N.take
   ·subst e;exact#[f2,g2,m2,aL9 F2 c2 λt h=>aD5 nd h,fb1 "self" F2]
   ·exact#[f1,g1,m1 C hC e,aKb F1 (λt h b ss z=>e (by rw[<-h,z];rfl)) D_inner (aCd nd F1 F2 cl c2 m1 m2 D_inner T d) T,fb1 "self" F1]⟩⟩
theorem aCo{f1:Addr}{g1:FuncData}(F1:Fun K "depth" "Term.depth" jM f1 g1)(cl:∀C,IsC N C->Cls K C)(m1:∀C,IsC N C->Meth K C "depth" f1)(D_inner:#v[v])(T:Txt mg):∀d,lU P w K mg base N (d+1) "depth" (aEi N ht d)
 |0=>#[λC hC=>#[cl C hC,f1,g1,m1 C hC,vH (λvs H Q E ⟨_,_,_,_,_,_,⟨t,_,_,h,_⟩,_⟩=>absurd (aEa t) ∅),fb1 "self" F1]]
 |d+1=>#[λC hC=>#[cl C hC,f1,g1,m1 C hC,aL4 F1 D_inner (aCo F1 cl m1 D_inner T d) T,fb1 "self" F1]]
theorem aBy{f1:Addr}{g1:FuncData}(F1:Fun K "parts" "Term.parts" iW f1 g1)(cl:∀C,IsC N C->Cls K C)(m1:∀C,IsC N C->Meth K C "parts" f1)(D_inner:#v[v])(T:Txt mg):∀d,lU P w K mg base N (d+1) "parts" (aEi N rF d)
 |0=>#[λC hC=>#[cl C hC,f1,g1,m1 C hC,vH (λvs H Q E ⟨_,_,_,_,_,_,⟨t,_,_,h,_⟩,_⟩=>absurd (aEa t) ∅),fb1 "self" F1]]
 |d+1=>#[λC hC=>#[cl C hC,f1,g1,m1 C hC,aL7 F1 D_inner (aBy F1 cl m1 D_inner T d) T,fb1 "self" F1]]
theorem aMs{f:Addr}{fd:FuncData}(F:Fun K "first_fault" "first_fault" kZ f fd)(m:mg "first_fault"=some (.ref f))(D_inner:#v[v])(D_fault:lU P w K mg base N 4 "own_fault" (uN N)):∀d,⇑(d+4) "first_fault" ["term"] (spV (fFF N d))
 |0=>#[_,_,vH (λvs H Q E ⟨_,_,_,_,_,_,⟨t,_,h,_⟩,_⟩=>absurd (aEa t) ∅),m,F.kp,fb1 "term" F]
 |d+1=>#[_,_,aZa F (aMs F m D_inner D_fault d) D_inner D_fault,m,F.kp,fb1 "term" F]
def aKo{f1 f2 f3:Addr}{g1 g2 g3:FuncData}(nd:(aC6 N).Nodup)(F1:Fun K "own_fault" "Term.own_fault" gG f1 g1)(F2:Fun K "own_fault" "Number.own_fault" fG f2 g2)(F3:Fun K "own_fault" "Take.own_fault" gP f3 g3)
  (cl:∀C,IsC N C->Cls K C) (c1:Cfl K N.num ["value"]) (c2:Cfl K N.take ["back","steps"])
  (c_within:#v[i]) (c_steps:⇑3 "are_steps" ["thing"] (spV aIc)) (T:Txt mg)
  (m1:Meth K N.num "own_fault" f2) (m2:Meth K N.take "own_fault" f3) (m5:∀k,Meth K (N.bin k) "own_fault" f1):lU P w K mg base N 4 "own_fault" (uN N):=by
 refine#[λC hC=>#[cl C hC,?_]];rcases hC with rfl|rfl|⟨k,rfl⟩
 ·exact#[f2,g2,m1,aK8 F2 c1 (λt h=>aNo nd h) c_within T,fb1 "self" F2]
 ·exact#[f3,g3,m2,aKn F3 c2 (λt h=>aD5 nd h) c_within c_steps T,fb1 "self" F3]
 ·exact#[f1,g1,m5 k,aLs F1,fb1 "self" F1]
def bAd{CR f:Addr}{fd:FuncData}{k:Nat}{m:Str}{ps:List Str}{sp:Sp}(cl:Cls K CR)(h:Meth K CR m f)(b:Binds K fd ps [])(F:↥k f fd ps sp):Dis P w K mg base CX0 k (·=CR) m ps λ_=>sp:=⟨λC hC=>by
 have hC:C=CR:=hC;subst hC;exact#[cl,f,fd,h,F,b]⟩
def aXl{H:Hp}{a:Addr}{E:XK}(h:SqL K H a #v[M]):spV (aQm K) [.ref a] H (λv _=>v=.bl true) E:=
 ⟨λ_=>False,λ_=>False,[.op (aH1 K ns)],λs=>s=.sh (.b true),#[nofun,nofun,nofun],#[_,_,rfl,#[a,rfl,h.imp (λh=>#[id,h]) λh _=> .inr h],rfl],#[ns,rfl,rfl],λs v H' hs _ r=>by
  subst hs;exact r.1⟩
def aWo{l:W.OpenLaw}{w:World}{K:W.Frag}{mg:Str->#v[12]}{fa Cnum Ctake Cb0 Cb1 CG CJ CP f10 f11 f12 f13 f14 f15 f16 f17 f18 f19 f20 f21 f22 f23 f24 f25 f26 f27 f28 f29 f30 f31 f32 f33 f34 f35 f36 f37 f38 f39 f40 f41 f42 f43 f44 f45 f46 f47 f48 f49 f50 f51 f52 f53 f54 f55 f56 f57 f58 f59 f60 f61 f62 f63 f64 f65 f66 f67 f68 f69 f70 f71 f72 f73:Addr}(X:K.In h)(G:h.Ns mainGlobals mg)(hfa:mg "law"=some (.ref fa))
  (aCnum:GN K "Number" Cnum) (aCtake:GN K "Take" Ctake) (aCb0:GN K "Added" Cb0) (aCb1:GN K "Multiplied" Cb1)
  (aCG:GN K "Grid" CG) (aCJ:GN K "Job" CJ) (aCP:GN K "Paper" CP) (F10:FF K "is_whole" uF f10 g10)
  (F11:FF K "is_within" rZ f11 g11) (F12:FF K "is_rim" aAl f12 g12) (F13:FF K "product" wX f13 g13) (F14:FF K "check_lines" oR f14 g14)
  (F15:FF K "are_steps" nQ f15 g15) (F16:FF K "lines_of" qN f16 g16) (F17:FF K "first_fault" kZ f17 g17) (F18:FF K "check_term" qJ f18 g18)
  (F19:FF K "is_row" vP f19 g19) (F20:FF K "are_rows" qF f20 g20) (F21:FF K "law" xX f21 g21) (F22:FF K "with_line" sW f22 g22)
  (F23:FF K "are_spots" oH f23 g23) (F24:FF K "are_wanted" qH f24 g24) (F25:FF K "are_pieces" mG f25 g25) (F26:FF K "are_below" oA f26 g26)
  (F27:FF K "are_shared_out" jW f27 g27) (F28:FF K "is_hand_count" lN f28 g28) (F29:FF K "are_hands" rQ f29 g29) (F30:FF K "is_wait" wQ f30 g30)
  (F31:FF K "are_waits" oG f31 g31) (F32:FF K "are_slots" nR f32 g32) (F33:FF K "waves_ahead" iC f33 g33) (F34:FF K "waves_of" qP f34 g34)
  (F35:FF K "times_of" nJ f35 g35) (F36:FF K "with_rows" rN f36 g36) (F37:FF K "last_end" rB f37 g37) (F38:FF K "walk_times" mL f38 g38)
  (F39:FF K "walk_end" uO f39 g39) (F40:FF K "rows_end" uG f40 g40) (F41:FF K "_law_cell_at" nC f41 g41) (F42:FF K "_law_tape" sJ f42 g42)
  (F43:FF K "_law_draw" rO f43 g43) (F44:FF K "_law_world" jF f44 g44) (F45:FF K "_law_places" kW f45 g45) (F46:FF K "_law_spots" lZ f46 g46)
  (F47:FF K "_law_job" kE f47 g47) (F48:FF K "_law_loose" iY f48 g48) (F49:FF K "_law_clock" fJ f49 g49) (F50:FF K "_law_steady" iG f50 g50)
  (F51:FF K "_law_right" fC f51 g51) (F52:MF K Cnum "inner" "Term.inner" lY f52 g52) (F53:MF K Cnum "takes" "Term.takes" mJ f53 g53) (F54:MF K Cnum "depth" "Term.depth" jM f54 g54)
  (F55:MF K Cnum "parts" "Term.parts" iW f55 g55) (F56:MF K Cb0 "own_fault" "Term.own_fault" gG f56 g56) (F57:MF K Cnum "__init__" "Number.__init__" jC f57 g57) (F58:MF K Cnum "own_fault" "Number.own_fault" fG f58 g58)
  (F59:MF K Ctake "__init__" "Take.__init__" lQ f59 g59) (F60:MF K Ctake "takes" "Take.takes" mK f60 g60) (F61:MF K Ctake "own_fault" "Take.own_fault" gP f61 g61) (F62:MF K Cb0 "__init__" "Paired.__init__" iV f62 g62)
  (F63:MF K Cb0 "inner" "Paired.inner" jL f63 g63) (F64:MF K CG "__init__" "Grid.__init__" lR f64 g64) (F65:MF K CG "lines" "Grid.lines" rA f65 g65) (F66:MF K CG "places_many" "Grid.places_many" iT f66 g66)
  (F67:MF K CJ "__init__" "Job.__init__" jO f67 g67) (F68:MF K CJ "deep" "Job.deep" qX f68 g68) (F69:MF K CG "all_places" "Grid.all_places" jE f69 g69) (F70:MF K CG "has_place" "Grid.has_place" gH f70 g70)
  (F71:MF K CJ "all_spots" "Job.all_spots" iM f71 g71) (F72:MF K CJ "is_spot" "Job.is_spot" oM f72 g72) (F73:MF K CP "__init__" "Paper.__init__" eQ f73 g73) (kCnum:CK K Cnum ["value"])
  (kCtake:CK K Ctake ["back","steps"]) (kCb0:CK K Cb0 ["one","other"]) (kCb1:CK K Cb1 ["one","other"]) (kCG:CK K CG ["sizes","rims"])
  (kCJ:CK K CJ ["taken","grid","term","modulus","rounds","first"]) (kCP:CK K CP ["job","pieces","hands","waits","slots","wanted"]) (e0:FI K Cb1 "__init__" f62) (e1:FI K Ctake "inner" f52)
  (e2:FI K Cb1 "inner" f63) (e3:FI K Cb0 "takes" f53) (e4:FI K Cb1 "takes" f53) (e5:FI K Ctake "depth" f54)
  (e6:FI K Cb0 "depth" f54) (e7:FI K Cb1 "depth" f54) (e8:FI K Ctake "parts" f55) (e9:FI K Cb0 "parts" f55)
  (e10:FI K Cb1 "parts" f55) (e11:FI K Cb1 "own_fault" f56) (nd:[Cnum,Ctake,Cb0,Cb1].Nodup) (z0:ZN K "isinstance")
  (z1:ZN K "int") (z2:ZN K "bool") (z3:ZN K "str") (z4:ZN K "tuple")
  (z5:ZN K "list") (z6:ZN K "len") (z7:ZN K "range") (z8:ZN K "enumerate")
  (z9:ZN K "max") (z10:ZN K "min") (z11:ZN K "sorted") (z12:ZN K "sum")
  (z13:ZN K "set") (z14:ZN K "all") (z15:ZN K "any") (z16:ZN K "zip")
  (z17:ZN K "abs") (z18:ZN K "dict") (q0:QN K "MOST_PIECES" 120 t0) (q1:QN K "MOST_HANDS" 4 t1)
  (q2:QN K "MOST_WAITS" 400 t2) (q3:QN K "GREATEST_SLOT" 119 t3) (q4:QN K "GREATEST_NUMBER" 1000000000000 t4) (q5:QN K "GREATEST_BACK" 3 t5)
  (q6:QN K "GREATEST_STEP" 9 t6) (q7:QN K "MOST_STEPS" 3 t7) (q8:QN K "MOST_DEPTH" 12 t8) (q9:QN K "MOST_PARTS" 60 t9)
  (q10:QN K "MOST_TAKES" 6 t10) (q11:QN K "GREATEST_MODULUS" 1000000000 t11) (q12:QN K "MOST_ROUNDS" 12 t12) (q13:QN K "MOST_SPOTS" 120 t13)
  (q14:QN K "GREATEST_FIXED" 1000000000 t14) (q15:QN K "MOST_LINES" 3 t15) (q16:QN K "GREATEST_SIZE" 9 t16) (q17:QN K "MOST_PLACES" 40 t17)
  :∃fd:FuncData,(∀(s:Ul)(v:Value),BindsTo s fd #[[v],[]] [("_law_script",v)])/\∀base:Heap,K.In base->base.Ns mainGlobals mg->bJ l.prog w K mg base CX0 18 fa fd ["_law_script"] (spV (aQm K)):=by
 have m:∀{n:Str}{f:Addr},GN K n f->mg n=some (.ref f):=λh=>Hb X G h;have mn:∀{n:Str},W.nsIn K mainGlobals n=some none->mg n=none:=λh=>W.mg_none_of X G h;have e:=hfa.symm.trans (m F21.a);cases e;have T:Txt mg:=#[mn z0,mn z1,mn z2,mn z3,mn z4,mn z5,mn z6,mn z7,mn z8,mn z9,mn z10,mn z11,mn z12,mn z13,mn z14,mn z15,mn z16,mn z17,mn z18,#[_,Hb X G q0],#[_,Hb X G q1],#[_,Hb X G q2],#[_,Hb X G q3],#[_,Hb X G q4],#[_,Hb X G q5],#[_,Hb X G q6],#[_,Hb X G q7],#[_,Hb X G q8],#[_,Hb X G q9],#[_,Hb X G q10],#[_,Hb X G q11],#[_,Hb X G q12],#[_,Hb X G q13],#[_,Hb X G q14],#[_,Hb X G q15],#[_,Hb X G q16],#[_,Hb X G q17]];have F0:=F21.F;obtain⟨⟨_,_,y1,y2,y3,y4,y5,y6,_,rfl,_⟩,_⟩:=F0;refine#[W.fnOf "law" "law" (jP xX) (gM xX) (aC xX) .none y1 y2 y3 y4 y5 y6,λs v=> .of_eq rfl,λbase _ _=>?_];have cal:∀{CX:CXT}{k:Nat}{f:Addr}{fd:FuncData}{n:Str}{st:Stmt}{ps:List Str}{sp:Sp},FF K n st f fd->bJ l.prog w K mg base CX k f fd ps sp->Binds K fd ps []->Cal l.prog w K mg base CX k n ps sp:=λF h b=>#[_,_,h,m F.a,F.F.kp,b];have dd:=@bAd l.prog w K mg base;let N:Cn:=#[Cnum,Ctake,λk=>match k with|false=>Cb0|true=>Cb1];have nd:(aC6 N).Nodup:=nd;have c5:∀k,CK K (N.bin k) ["one","other"]:=λk=>by
  match k with
  |false=>exact kCb0
  |true=>exact kCb1
 have cl:∀C,IsC N C->Cls K C:=λC hC=>by
  rcases hC with rfl|rfl|⟨k,rfl⟩
  ·exact kCnum.c
  ·exact kCtake.c
  ·exact(c5 k).c
 have D_i:lU l.prog w K mg base N 1 "inner" (lL N):=aL6 nd F52.F F63.F cl (λk=>(c5 k).fl) F52.m (mth F52.m e1) (λk=>by
  match k with
  |false=>exact F63.m
  |true=>exact(mth F63.m e2))
 have D_t:=aCd (P:=l.prog) (w:=w) (base:=base) nd F53.F F60.F cl kCtake.fl (λC hC ne=>by
  rcases hC with rfl|rfl|⟨k,rfl⟩
  ·exact F53.m
  ·exact absurd rfl ne
  ·match k with
   |false=>exact(mth F53.m e3)
   |true=>exact(mth F53.m e4)) F60.m D_i T 8
 have D_d:=aCo (P:=l.prog) (w:=w) (base:=base) F54.F cl (λC hC=>by
  rcases hC with rfl|rfl|⟨k,rfl⟩
  ·exact F54.m
  ·exact(mth F54.m e5)
  ·match k with
   |false=>exact(mth F54.m e6)
   |true=>exact(mth F54.m e7)) D_i T 8
 have D_p:=aBy (P:=l.prog) (w:=w) (base:=base) F55.F cl (λC hC=>by
  rcases hC with rfl|rfl|⟨k,rfl⟩
  ·exact F55.m
  ·exact(mth F55.m e8)
  ·match k with
   |false=>exact(mth F55.m e9)
   |true=>exact(mth F55.m e10)) D_i T 8
 have c10:=cal F10 (aNl F10.F T) (fb1 _ F10.F);have c11:=cal F11 (aL5 F11.F c10) (fb3 _ _ _ F11.F);have c15:=cal F15 (aNy F15.F c11 T) (fb1 _ F15.F);have D_f:lU l.prog w K mg base N 4 "own_fault" (uN N):=aKo nd F56.F F58.F F61.F cl kCnum.fl kCtake.fl c11 c15 T F58.m F61.m (λk=>by
  match k with
  |false=>exact F56.m
  |true=>exact(mth F56.m e11))
 have c17:=aMs F17.F (m F17.a) D_i D_f 8;have c16:=cal F16 (aHj F16.F D_t T) (fb1 _ F16.F);have c18:=cal F18 (aKs F18.F ⋯ c17 c16 D_t D_d D_p T) (fb1 _ F18.F);have M_Number:MkB l.prog w K mg base (N.num) "Number" ["value"]:=#[#[_,_,aM9 F57.F kCnum.fl,mkO kCnum F57.m,m aCnum,(fb2 _ _ F57.F)]];have M_Take:MkB l.prog w K mg base (N.take) "Take" ["back","steps"]:=#[#[_,_,aN6 F59.F kCtake.fl,mkO kCtake F59.m,m aCtake,(fb3 _ _ _ F59.F)]];have M_Added:MkB l.prog w K mg base (N.bin false) "Added" ["one","other"]:=#[#[_,_,aGp F62.F kCb0.fl,mkO kCb0 F62.m,m aCb0,(fb3 _ _ _ F62.F)]];have M_Multiplied:MkB l.prog w K mg base (N.bin true) "Multiplied" ["one","other"]:=#[#[_,_,aGp F62.F kCb1.fl,mkO kCb1 (mth F62.m e0),m aCb1,(fb3 _ _ _ F62.F)]];have c12:=cal F12 (aM4 F12.F c11 T) (fb1 _ F12.F);have c13:=cal F13 (aSv F13.F) (fb1 _ F13.F);have c14:=cal F14 (aP3 F14.F c11 c12 T) (fb2 _ _ F14.F);have c19:=cal F19 (aPw F19.F c11 T) (fb3 _ _ _ F19.F);have c20:=cal F20 (aIg F20.F c19 T) (fb4 _ _ _ _ F20.F);have D_lines:=dd kCG.c F65.m (fb1 _ F65.F) (aMf F65.F kCG.fl T);have D_many:=dd kCG.c F66.m (fb1 _ F66.F) (aTf F66.F kCG.fl c13);have D_deep:=dd kCJ.c F68.m (fb1 _ F68.F) (aR8 F68.F #[kCJ.c,λf hf=>kCJ.na f (by rw[List.mem_singleton.mp hf];exact Ah)] T);have M_Grid:MkU l.prog w K mg base 5 CG "Grid" ["self","sizes","rims"] aHo:=#[#[_,_,aNv F64.F kCG.fl c14 c13 T,mkO kCG F64.m,m aCG,(fb3 _ _ _ F64.F)]];have M_Job:MkU l.prog w K mg base 14 CJ "Job" ["self","grid","term","modulus","rounds","first"] (aIk N CG):=#[#[_,_,aPf F67.F kCJ.fl c18 c16 c11 c20 D_t D_lines D_many D_deep T,mkO kCJ F67.m,m aCJ,(fb6 _ _ _ _ _ _ F67.F)]];have c22:=cal F22 (aR4 F22.F T) (fb2 _ _ F22.F);have D_allp:=dd kCG.c F69.m (fb1 _ F69.F) (aQ7 F69.F kCG.fl c22 T);have D_alls:=dd kCJ.c F71.m (fb1 _ F71.F) (aR3 (N:=N) F71.F kCJ.fl D_allp T);have D_has:=dd kCG.c F70.m (fb2 _ _ F70.F) (aWn F70.F kCG.fl c11 D_lines T);have D_isp:=dd kCJ.c F72.m (fb2 _ _ F72.F) (aL3 (N:=N) F72.F kCJ.fl c11 D_has T);have c23:=cal F23 (aQz F23.F D_isp T) (fb2 _ _ F23.F);have c24:=cal F24 (aQ6 F24.F c23 T) (fb2 _ _ F24.F);have c25:=cal F25 (aRk F25.F c23 T) (fb2 _ _ F25.F);have c26:=cal F26 (aQ0 F26.F c11 T) (fb2 _ _ F26.F);have c27:=cal F27 (aKq F27.F c26 T) (fb2 _ _ F27.F);have c28:=cal F28 (aOl F28.F c11 T) (fb1 _ F28.F);have c29:=cal F29 (aN8 F29.F c27 c28 T) (fb2 _ _ F29.F);have c30:=cal F30 (aQ9 F30.F c26 T) (fb2 _ _ F30.F);have c31:=cal F31 (aP0 F31.F c30 T) (fb2 _ _ F31.F);have c32:=cal F32 (aOc F32.F c11 D_alls c23 T) (fb2 _ _ F32.F);have M_Paper:MkU l.prog w K mg base 7 CP "Paper" ["self","job","pieces","hands","waits","slots","wanted"] (aGt l.prog w N CG CJ):=#[#[_,_,aKz F73.F kCP.fl c25 c29 c31 c32 c24 T,mkO kCP F73.m,m aCP,(fb7 _ _ _ _ _ _ _ F73.F)]];have c33:=cal F33 (aMw F33.F T) (fb2 _ _ F33.F);have c34:=cal F34 (bAs F34.F c33 T) (fb2 _ _ F34.F);have c35:=cal F35 (aOn F35.F c34 T) (fb2 _ _ F35.F);have c36:=cal F36 (aMj F36.F T) (fb2 _ _ F36.F);have c37:=cal F37 (aS1 F37.F T) (fb1 _ F37.F);have c38:=cal F38 (aLu F38.F kCP.fl c35 c36 T) (fb1 _ F38.F);have c39:=cal F39 (aSw F39.F c38 c37 T) (fb1 _ F39.F);have c40:=cal F40 (aR6 F40.F c35 c36 c37 c27 T) (fb3 _ _ _ F40.F);have c41:=cal F41 (aQ4 F41.F T) (fb2 _ _ F41.F);have c42:=cal F42 (aQ5 F42.F T) (fb1 _ F42.F);have c43:=cal F43 (aTh F43.F) (fb2 _ _ F43.F);have c44:=cal F44 (aOk F44.F c43 T) (fb1 _ F44.F);have c45:=cal F45 (aLk F45.F T) (fb1 _ F45.F);have c46:=cal F46 (aMu F46.F c45 T) (fb1 _ F46.F);have c47:=cal F47 (aRq F47.F M_Number M_Take M_Added M_Multiplied M_Grid M_Job c43 c45 T) (fb2 _ _ F47.F);have c48:=cal F48 (aOq F48.F c43 c46 T) (fb2 _ _ F48.F);have c49:=cal F49 (aMd F49.F T) (fb3 _ _ _ F49.F);have c50:=cal F50 (aLv F50.F kCP.fl T) (fb2 _ _ F50.F);have c51:=cal F51 (aPb F51.F M_Paper c38 c39 c40 c50 c43 T) (fb4 _ _ _ _ F51.F);exact aV9 F21.F c41 c42 c44 c47 c46 c48 c49 c51 T
def aVc{l:W.OpenLaw}{q:Program}{d:DefRec}{K:Params->W.Frag}(hn:l.most=some 63)(hdf:d.params.defaults=[])
  (hY:∀(w:World)(h:Heap),YP w h->(K w.params).In h)
  (F:∀(w:World)(mg:Str->#v[12])(fa:Addr)(h:Heap),(K w.params).In h->h.Ns mainGlobals mg->mg d.name=some (.ref fa)->
   ∃fd:FuncData,(∀(s:Ul)(u:Value),BindsTo s fd #[[u],[]] [("_law_script",u)])/\∀base:Heap,(K w.params).In base->base.Ns mainGlobals mg->bJ l.prog w (K w.params) mg base CX0 18 fa fd ["_law_script"] (spV (aQm (K w.params)))):
  W.WalkO q loose XP YP l.row.toRowW d [] (λf vs=>Rk f vs):=
 L2.aR0 (n:=63) (k:=18) (x:="_law_script") (CX:=λ_=>CX0) (sp:=λw=>spV (aQm (K w.params))) hn ⋯ hdf #[rfl,⋯,⋯] hY F (λ_ _ _ _ _ _ hS=>aXl hS) λ_ _ _ _ _ z=>z
end Q
structure PySem.W.Fast:Prop where
 (tw17172804885464501016 tw17619793218627558438 tw15846265093653795102 tw7877754776571817838 tw16552900857386377638 tw13076253586117909646 tw7298733482388850880 tw1529005664432392363 tw6073771940268125971 tw8879531905273410469 tw2094082410472158362 tw164480123980890104 tw8968909335744835744 tw9216041265909379441 tw13701525227563487611 tw15154273699120780002 tw539186666729104141 tw1843134084632132339 tw7146869348974221798 tw2574694849136800281 tw17652101405788015333 tw8321217464972788656 tw9337391756005977673 tw17895761893826561536 tw15394483228322695758 tw10270485748689766902 tw1581202466970178570 tw1880712459739173072 tw15385224300841678681 tw9302471746809669967 tw18415697864331208563 tw6728984222846992278 tw12517434174324958400 tw4691703168345010573 tw5834708477060878932 tw17859764693934078891 tw6935049999275116509 tw15379353426048819865 tw2717485777598532598 tw16031733875713848193 tw8409497971844101740 tw6516255907879409851 tw12376121212843614895 tw16443824552947773036 tw13667665079072649535 tw12134971021671215099 tw8735629613388210513 tw2696407666667347571 tw18276946264624842079 tw1960690961536386787 tw16135889937002244845 tw3416997815215147985 tw12480013258259187167 tw13832237048327867169 tw292216458718239359 tw6095849848359591141 tw10314590522036004349 tw9043194993841914811 tw4123405440768341164 tw15632500257557379756 tw11245855783654086069 tw10061338641385712370 tw13002206865015881732 tw16592417706375605725 tw5697917235889650461 tw4659031029325777657 tw6380547919495408473 tw17252037276108105050 tw14373323940072522525 tw2226139388662075041 tw16819319705302330301 tw5295523509045731524 tw1186203189620921622 tw8654705031808223772 tw9902682055603851977 tw4028364386771908404 tw13307667079669751546 tw12308766101411315979 tw525896328259494203 tw6318124103552842790 tw17172276709930091152 tw5368724392034050077 tw9041566908245334452 tw12766016489651277435 tw8879083372811626590 tw7796099335317732053 tw7731382883322794865 tw15162134956566369750 tw10919148343218005589 tw13447037651766242256 tw11309899161747951807 tw5968433539090050296 tw17481170914510422354 tw1166293093851674099 tw16744855525411981483 tw13771357620264564617 tw18158771789138731280 tw12778019899485668963 tw6975408026270677579 tw7802535673039856837 tw16963248671522800573 tw1400072692908903082 tw8027166236838610371 tw7992939591469189114 tw4714033901263455291 tw6748789902957759470 tw12498388541965193407 tw9780355593491032774 tw8543926183514036063 tw5563862664848863025 tw6809369687445204630 tw17373724917191746298 tw15809548349738876785 tw12290769008831956379 tw5005045652894040933 tw17167491592655433756 tw9239372443965520510 tw17077249686386632768 tw704570372727193496 tw12730300814426912147 tw9589947021620394203 tw3941490075747326550 tw13430498334996250776 tw3712639434298346167 tw16524718210995179777 tw14231613479575010226 tw13892015230683801996 tw16141248042907601267 tw3572955307772608631 tw3067539066064779963 tw5801801949041336813 tw5788093366870603178 tw13635537771886880269 tw6612101395889768144 tw14062017606388952230 tw8346572254620355829 tw14289006648900300963 tw11441120916284491337 tw14637496938757780899 tw2825696134422222501 tw10508880065883496724 tw1763901165796550009 tw456861769414298274 tw1294537305054159281 tw12223043665718557403 tw13480853891205779112 tw3304607769956296929 tw5737663092424457028 tw7210293966055637869 tw14528855629589637150 tw12093646172649490637 tw16317728593568447841 tw9086264202341432512 tw3074270998026265824 tw2431466673597182791 tw7878832374105269662 tw18219351197159127143 tw7563896451343471337 tw9648316748580855133 tw9825972480434481328 tw11431382876706141680 tw5302033539752161204 tw13596742905252113003 tw10899706876937493132 tw10768750915522584909 tw5867427277492272290 tw4175558800470983822 tw9884383729441189170 tw385679356517863914 tw9684519193229199911 tw10516598993932392807 tw18379897198439072335 tw10983961208833365324 tw9461920737627015316 tw12738623441737138213 tw5576441765696151057 tw8824209139620317095 tw10339095279726577339 tw9630583947443130022 tw11633866345665108045 tw10507352779181824977 tw6164604025690163252 tw16301771473195121252 tw8568438022809555359 tw8612565032574008658 tw8430167230361230737 tw15461587300007913693 tw5086515267375860907 tw15750940355804207401 tw4103483896854339011 tw5165132325493743766 tw6149624735999937205 tw9809666764177442798 tw1008170793688028605 tw18039433404804407950 tw2388955839339694993 tw4051507054063654557 tw5452068978307442840 tw2584818396047469368 tw16251787792748198597 tw13735425536540630682 tw11964222678031118222 tw12185210249036955579 tw298378897434818066 tw9273463920698484844 tw4043118843107769291 tw7774256059245225360 tw7611347357868157834 tw18409512648256151495 tw2035442995031231814 tw1264431639926860724 tw2398991272358036076 tw10420100159838822114 tw10067021374702680048 tw4364418088476454548 tw812356715401399515 tw15920348910191134845 tw6175226824340941163 tw10276260081221051901 tw2542228635462197122 tw4256955182457623812 tw10085070256363802362 tw14759872518188757625 tw2612497275866747126 tw13735420043960475747 tw14783796760495019638 tw6002334175155162086 tw8963244773420407419 tw7951247611460866502 tw7010668178409455530 tw15873371332409537844 tw15055608540833459762 tw7457802117536928691 tw10673257942424779467 tw6058635769212451160 tw17404626210487620786 tw15426123992228761554 tw7167040229318784026 tw351908289487911352 tw1395759487371025606 tw10537610565192172037 tw18196282745635860819 tw11784442004337668955 tw7654781660479170100 tw13979671642845425822 tw10304592662463771608 tw3824964636833911110 tw7511780974652636838 tw9034077906455821878 tw7661743418283232269 tw7346049436715623603 tw3317366777277767492 tw13650006532268837011 tw2220372924776572071 tw371763402473282219 tw14197179768363846405 tw6132069235758086894 tw4358124103580733114 tw1816012872183419960 tw17011822365576844685 tw8953097899241456618 tw6969036140399971606 tw12074345524018331289:True)
open PySem PySem.W PyProof.Rows
set_option maxRecDepth 100000 in
set_option maxHeartbeats 0 in
theorem PySem.Challenge.cw_slanttiles_k72_whole_waits_only_delay_holds : PySem.Challenge.rw_slanttiles_k72_whole_waits_only_delay.Holds := by
  w_on; o_law; k_head; (case hw => w_witness2)
  k_fill
  refine Q.aVc (l := PySem.Challenge.rw_slanttiles_k72_whole_waits_only_delay) rfl rfl (fun w h Y => PySem.W.kIn_of Y) ?F
  case F =>
    intro w mg fa h KY G hmg
    apply Q.aWo KY G hmg
    case aCnum | aCtake | aCb0 | aCb1 | aCG | aCJ | aCP | e0 | e1 | e2 | e3 | e4 | e5 | e6 | e7 | e8 | e9 | e10 | e11 | z0 | z1 | z2 | z3 | z4 | z5 | z6 | z7 | z8 | z9 | z10 | z11 | z12 | z13 | z14 | z15 | z16 | z17 | z18 | q0 | q1 | q2 | q3 | q4 | q5 | q6 | q7 | q8 | q9 | q10 | q11 | q12 | q13 | q14 | q15 | q16 | q17 => change _ = _; k_is
    case F52 | F53 | F54 | F55 | F56 | F57 | F58 | F59 | F60 | F61 | F62 | F63 | F64 | F65 | F66 | F67 | F68 | F69 | F70 | F71 | F72 | F73 => exact ⟨⟨by k_is, by k_is, by k_is⟩, L2.aO4 (by k_is) (by k_is) (by k_is)⟩
    case kCnum => exact ⟨⟨by k_is, by k_is, by k_is, by k_is⟩, Q.naS (by k_is) Q.na0, by k_is, by k_is⟩
    case kCtake | kCb0 | kCb1 | kCG => exact ⟨⟨by k_is, by k_is, by k_is, by k_is⟩, Q.naS (by k_is) (Q.naS (by k_is) Q.na0), by k_is, by k_is⟩
    case kCJ | kCP => exact ⟨⟨by k_is, by k_is, by k_is, by k_is⟩, Q.naS (by k_is) (Q.naS (by k_is) (Q.naS (by k_is) (Q.naS (by k_is) (Q.naS (by k_is) (Q.naS (by k_is) Q.na0))))), by k_is, by k_is⟩
    case nd => decide
    case F10 | F11 | F12 | F13 | F14 | F15 | F16 | F17 | F18 | F19 | F20 | F21 | F22 | F23 | F24 | F25 | F26 | F27 | F28 | F29 | F30 | F31 | F32 | F33 | F34 | F35 | F36 | F37 | F38 | F39 | F40 | F41 | F42 | F43 | F44 | F45 | F46 | F47 | F48 | F49 | F50 | F51 => exact ⟨by change _ = _; k_is, L2.aO4 (by k_is) (by k_is) (by k_is)⟩


