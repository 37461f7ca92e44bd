"""Games of rows and columns, and the linear programs behind them."""
