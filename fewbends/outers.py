"""The fewest turns over all lands as outer ones: point 16 of the document."""

from fewbends.fewest import bound_of, cost, fewest, keeps, shows_none
from fewbends.maps import check_flat, lands
from fewbends.shapes import is_shape


def best_outer(web, wishes):
    check_flat(web)
    best = None
    best_shape = None
    papers = []
    for outer in range(len(lands(web))):
        told = fewest(web, outer, wishes)
        papers.append(paper_of(told))
        # Only a lesser cost counts, so the first of those that cost least stays.
        if told[0] == "shape" and (best is None or cost(wishes, told[1]) < cost(wishes, best_shape)):
            best = outer
            best_shape = told[1]
    return (best, best_shape, papers)


def paper_of(told):
    if told[0] == "shape":
        return ("prices", told[2])
    return ("none", told[1])


def shows_best(web, wishes, land, shape, papers):
    if len(papers) != len(lands(web)):
        return False
    if land is None:
        return all([shows_no_shape(web, outer, wishes, paper) for outer, paper in enumerate(papers)])
    if not is_shape(web, land, shape) or not keeps(wishes, shape):
        return False
    least = cost(wishes, shape)
    return all([shows_none_below(web, outer, wishes, paper, least) for outer, paper in enumerate(papers)])


def shows_no_shape(web, outer, wishes, paper):
    return paper[0] == "none" and shows_none(web, outer, wishes, paper[1])


def shows_none_below(web, outer, wishes, paper, least):
    if paper[0] != "prices":
        return shows_no_shape(web, outer, wishes, paper)
    most = bound_of(web, outer, wishes, paper[1])
    return most is not None and most >= least
