"""The cheapest way for a flow to go, where each stretch has a price, and the heights that show it."""

from dyedpours.flows import trail_to


def cheapen(flow, prices, least, barred):
    """Lower least, the price at which more can go on to each node, as far as can be; one stretch is barred.

    None is the price of a node to which none is known. By which (stretch, way, node) each was lowered is told.
    """
    came = [None] * len(least)
    fresh = [node for node, price in enumerate(least) if price is not None]
    while len(fresh) > 0:
        lowered = {}
        for node in fresh:
            for stretch, other, way in flow.touching[node]:
                price = least[node] + way * prices[stretch]
                open_to = stretch != barred and flow.room(stretch, way) > 0
                if open_to and (least[other] is None or price < least[other]):
                    least[other] = price
                    came[other] = (stretch, way, node)
                    lowered[other] = True
        fresh = list(lowered)
    return came


def cheapest_trail(flow, prices, stretch, way):
    """The (stretch, way) of the cheapest ring by which more (way 1) or less (way -1) goes along this stretch.

    None if there is no ring, or if all cost nothing or more.
    """
    if flow.room(stretch, way) <= 0:
        return None
    start, goal = flow.sides(stretch, way)
    least = [None] * len(flow.touching)
    least[start] = 0
    came = cheapen(flow, prices, least, stretch)
    if least[goal] is None or least[goal] + way * prices[stretch] >= 0:
        return None
    return [(stretch, way)] + trail_to(came, start, goal)


def settle_price(flow, prices, stretch):
    """Let the flow go as cheaply as can be, if it does so but for the price of this stretch."""
    for way in (1, -1):
        trail = cheapest_trail(flow, prices, stretch, way)
        while trail is not None:
            flow.push(trail, flow.room(stretch, way))
            trail = cheapest_trail(flow, prices, stretch, way)


def settle_prices(flow, weights):
    """Let the flow go as cheaply as can be by the weights of its first stretches; the height of each node is told.

    By these no stretch on which more can go costs less than the heights fall, none on which less can go costs more.
    """
    prices = [0] * len(flow.along)
    # Each flow is the cheapest one as long as all prices are 0; so the prices come one behind the other.
    for stretch, weight in enumerate(weights):
        prices[stretch] = weight
        settle_price(flow, prices, stretch)
    heights = [0] * len(flow.touching)
    cheapen(flow, prices, heights, None)
    return heights
